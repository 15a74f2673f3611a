/- The law GlobRules. -/
import Derived.Test.YthigepjddfdbmaaDoorGlobZk
namespace Go.Proofs.YthigepjddfdbmaaDoor
open Go.RowKit Go.Lib
theorem newGo_err : ∀ {L : List Txt} {i : Nat} {p : Int × Nat}, newGo i L = .error p → p.1 ≠ 0
  | [], _, _, h => (by cases h)
  | t :: r, i, p, h => by
    by_cases ht : t = [] ∨ t.getD 0 0 = 35
    · rw [newGo_pass ht] at h; exact newGo_err h
    · rw [newGo_line ht] at h
      cases hp : parseN (lineX t) with
      | error c =>
        rw [hp] at h
        injection h with h
        subst h
        intro e
        have e2 : c = 0 := e
        have : codeN (lineX t) = 0 := by unfold codeN; rw [hp]; exact e2
        obtain ⟨ps, h⟩ := code_of.1 this
        rw [hp] at h; cases h
      | ok ps =>
        rw [hp] at h
        cases hg : newGo (i + 1) r with
        | error e =>
          have h2 : (match newGo (i + 1) r with
            | .error e => .error e
            | .ok l => .ok (⟨ps, [33].isPrefixOf t⟩ :: l) : Except (Int × Nat) (List RuleN)) = .error p := h
          rw [hg] at h2
          injection h2 with h2
          subst h2
          exact newGo_err hg
        | ok l =>
          have h2 : (match newGo (i + 1) r with
            | .error e => .error e
            | .ok l => .ok (⟨ps, [33].isPrefixOf t⟩ :: l) : Except (Int × Nat) (List RuleN)) = .error p := h
          rw [hg] at h2; cases h2
set_option maxRecDepth 100000 in
set_option maxHeartbeats 8000000 in
theorem rules_law (S : Nat → Prop) (v : Value) (L : List Txt) (s : Txt) (w : World) (hS : ∀ k, S k → k < w.heap.size) (hv : StrsC S w v L) (hE : PEnv w) (hs : s.length ≤ 1048576) (hL : L.length ≤ 1048576) (hT : ∀ x ∈ L, x.length ≤ 1048576) :
    Calls Tryd.prog 4 #[v, .string ⟨s.toArray⟩] w fun e w' => e = .returned (.bool true) ∧ Below w.heap.size w w' := by
  obtain ⟨la, lc, rfl⟩ := hv.shape
  have HE := Lib.hid hE
  have HAW := Lib.hid (awake_any w hE)
  have HV := Lib.hid (fun (W : World) (hb : Below w.heap.size w W) => hv.kept (S' := S) (w' := W) (fun k hk => ⟨hk, hb.block k (hS k hk)⟩))
  have HSS := Lib.hid (fun (W : World) (hb : Below w.heap.size w W) k (hk : S k) => Nat.lt_of_lt_of_le (hS k hk) hb.size)
  have HT := Lib.hid hT
  clear hE hv hS hT
  go_enter Tryd.func4, Tryd.ntmps4
  go_wp2_with fail
  refine HAW.out.mono ?_
  rintro e w1 ⟨rfl, hb1⟩
  have HB1 := Lib.hid hb1
  have HNW := Lib.hid (new_any S (.slice la L.length lc) L w1 (HSS.out w1 hb1) (HV.out w1 hb1) (by omega) (fun x hx => by have := HT.out x hx; omega) (HE.out.on hb1))
  clear hb1 HAW
  by_cases hs4 : 400 < s.length
  · go_wp2_with fail
    go_ret
    exact ⟨rfl, HB1.out⟩
  by_cases hL4 : 40 < L.length
  · go_wp2_with fail
    go_ret
    exact ⟨rfl, HB1.out⟩
  go_wp2_with fail
  refine HNW.out.mono ?_
  intro e w2 h2
  cases hn : newGo 0 L with
  | error p =>
    rw [hn] at h2
    obtain ⟨rfl, hb2⟩ := h2
    have HB2 : Hid (Below w.heap.size w w2) := Lib.hid (HB1.out.trans (hb2.mono HB1.out.size))
    have hrr := rrules_any S (.slice la L.length lc) L w2 (HSS.out w2 HB2.out) (HV.out w2 HB2.out) hL HT.out
    rw [hn] at hrr
    have HRR := Lib.hid hrr
    have hp0 := newGo_err hn
    obtain ⟨c, i⟩ := p
    have g6 : (c == 0) = false := by rw [beq_eq_false_iff_ne]; exact hp0
    have g7 : (c != 0) = true := by rw [bne, g6]; rfl
    clear hn hrr hb2 hp0 HNW
    go_wp2_with fail
    refine HRR.out.mono ?_
    rintro e w3 ⟨he, hb3⟩
    have he2 : e = .returned (.tuple #[.int .i64 c, .int .i64 (i : Int)]) := he
    subst he2
    have HB3 : Hid (Below w.heap.size w w3) := Lib.hid (HB2.out.trans (hb3.mono HB2.out.size))
    clear hb3 HRR he
    go_wp2_with fail
    go_ret
    exact ⟨rfl, HB3.out⟩
  | ok rs =>
    rw [hn] at h2
    obtain ⟨rb, rfl, hra, hb2⟩ := h2
    have HB2 : Hid (Below w.heap.size w w2) := Lib.hid (HB1.out.trans (hb2.mono HB1.out.size))
    have hrr := rrules_any S (.slice la L.length lc) L w2 (HSS.out w2 HB2.out) (HV.out w2 HB2.out) hL HT.out
    rw [hn] at hrr
    have HRR := Lib.hid hrr
    obtain ⟨b, hb⟩ : ∃ b, skipsB rs s = b := ⟨_, rfl⟩
    have HSK := Lib.hid (fun (W : World) (hW : Below w2.heap.size w2 W) => skips_yes (fun k => k < w2.heap.size) rb rs s W (fun k hk => Nat.lt_of_lt_of_le hk hW.size) (hra.kept (fun k hk => ⟨hk.2, hW.block k hk.2⟩)) (HE.out.on (HB2.out.trans (hW.mono HB2.out.size))) (by omega) hb)
    have HRS := Lib.hid (fun (W : World) (hW : Below w.heap.size w W) => rskips_any S (.slice la L.length lc) L s W (HSS.out W hW) (HV.out W hW) hL HT.out (by omega) hn hb)
    clear hn hrr hb2 HNW hra hb
    go_wp2_with fail
    refine HRR.out.mono ?_
    rintro e w3 ⟨he, hb3⟩
    have he2 : e = .returned (.tuple #[.int .i64 0, .int .i64 0]) := he
    subst he2
    have HB3 : Hid (Below w.heap.size w w3) := Lib.hid (HB2.out.trans (hb3.mono HB2.out.size))
    have HSK3 := Lib.hid (HSK.out w3 hb3)
    clear hb3 HRR he
    go_wp2_with fail
    refine HSK3.out.mono ?_
    rintro e w4 ⟨rfl, hb4⟩
    have HB4 : Hid (Below w.heap.size w w4) := Lib.hid (HB3.out.trans (hb4.mono HB3.out.size))
    have HRS4 := Lib.hid (HRS.out w4 HB4.out)
    clear hb4 HSK3
    go_wp2_with fail
    refine HRS4.out.mono ?_
    rintro e w5 ⟨rfl, hb5⟩
    have HB5 : Hid (Below w.heap.size w w5) := Lib.hid (HB4.out.trans (hb5.mono HB4.out.size))
    clear hb5 HRS4
    go_wp2_with fail
    go_ret
    exact ⟨by simp, HB5.out⟩
end Go.Proofs.YthigepjddfdbmaaDoor
