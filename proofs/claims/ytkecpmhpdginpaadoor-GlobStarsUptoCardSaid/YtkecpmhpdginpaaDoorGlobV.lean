/- The law GlobLast. -/
import Derived.Test.YtkecpmhpdginpaaDoorGlobU
namespace Go.Proofs.YtkecpmhpdginpaaDoor
open Go.RowKit Go.Lib
attribute [local go_sem] ba_app

theorem sv_at {l : List Txt} {j : Nat} {u : Value} (h : (sv l)[j]? = some u) : j < l.length ∧ u = .string ⟨(l.getD j []).toArray⟩ := by
  unfold sv at h
  rw [List.getElem?_map] at h
  cases hg : l[j]? with
  | none => rw [hg] at h; cases h
  | some x =>
    rw [hg] at h
    injection h with h
    exact ⟨(List.getElem?_eq_some_iff.1 hg).1, by rw [← h]; simp [List.getD, hg]⟩
theorem StrsC.srcS {S : Nat → Prop} {w : World} {v : Value} {l : List Txt} (h : StrsC S w v l) : Src Tryd.prog 1 30 v l.length (sv l) w := by
  rcases h with ⟨rfl, a, c, rfl⟩ | ⟨a, c, rfl, _, _, h5⟩
  · cases a with
    | none => exact Src.ofNil w Tryd.underlying30 c
    | some a => exact Src.ofSlice w Tryd.underlying30 a 0 c [] (by simp) (fun j u hj => by simp at hj) (fun u hu => by cases hu)
  · refine Src.ofSlice w Tryd.underlying30 a l.length c (sv l) (by unfold sv; simp) (fun j u hj => ?_) (fun u hu => ?_)
    · obtain ⟨h1, rfl⟩ := sv_at hj
      exact h5 j h1
    · unfold sv at hu
      obtain ⟨_, _, rfl⟩ := List.mem_map.1 hu
      rfl
theorem ownS_more {w : World} {B : Nat} {v : Value} {l r : List Txt} {n : Nat} (hn : n = l.length + r.length) (h : w.ownsRow B 9 1 v n (sv l ++ sv r)) : OwnS w B v (l ++ r) := by
  unfold OwnS
  rw [sv_append, List.length_append, ← hn]; exact h
set_option maxRecDepth 100000 in
set_option maxHeartbeats 2000000 in
theorem quoted_same (p : Txt) (w : World) (hp : p.length ≤ 1048576) :
    Calls Tryd.prog 19 #[.string ⟨p.toArray⟩] w fun e w' => e = .returned (.string ⟨(quoL p).toArray⟩) ∧ w' = w := by
  go_enter Tryd.func19, Tryd.ntmps19
  go_wp2_with fail
  go_loop [4, 3] (fun i o => ∃ k : Nat, k ≤ p.length ∧ i = .int .i64 k ∧ o = .string ⟨(quoL (p.take k)).toArray⟩) (fun i _ => p.length - (intOf i).toNat)
  case atStart => exact ⟨0, Nat.zero_le _, rfl, rfl⟩
  case round =>
    obtain ⟨k, hk, rfl, rfl⟩ := hrel
    by_cases hlt : k < p.length
    · have hI := fun W => str_at W p k hlt
      have HTK : Hid (p.take (k + 1) = p.take k ++ [p.getD k 0]) := Lib.hid (take_one hlt)
      obtain ⟨c, hc⟩ : ∃ c, p.getD k 0 = c := ⟨_, rfl⟩
      have hcu : ∀ W, (Instr.slice 9 (.string ⟨p.toArray⟩) (some (.int .i64 (k : Int))) (some (.int .i64 ((k : Int) + 1))) none).run Tryd.prog W = .ok (.string ⟨#[c]⟩) W := fun W => by
        have := str_cut W p k (k + 1) (by omega) hlt
        rw [show k + 1 - k = 1 by omega, List.drop_eq_getElem_cons hlt] at this
        have e : p[k] = c := by rw [← hc]; simp [List.getD, hlt]
        rw [e] at this
        rw [show ((k : Int) + 1) = ((k + 1 : Nat) : Int) by omega]
        exact this
      rw [hc] at hI HTK
      have HQ : Hid (quoL (p.take (k + 1)) = quoL (p.take k) ++ quoL [c]) := Lib.hid (by rw [HTK.out, quoL_app])
      have hql : (quoL (p.take k)).length ≤ 2097152 := by have := quoL_len (p.take k); rw [List.length_take] at this; omega
      clear hc
      by_cases h47 : c = 47
      · have g47 : ((c.toNat : Int) == 47) = true := byte_t _ 47 (by omega) 47 rfl h47
        have n47 : ((c.toNat : Int) != 47) = false := by rw [bne, g47]; rfl
        have e47 : decide ((c.toNat : Int) = 47) = true := by rw [← g47]; rfl
        have HQ2 : Hid (quoL (p.take (k + 1)) = quoL (p.take k) ++ [c]) := Lib.hid (by rw [HQ.out, h47]; rfl)
        clear h47 g47
        go_wp2_with fail
        go_round
        case rel => exact ⟨k + 1, by omega, by go_num, by rw [HQ2.out]⟩
        case measure => simp [intOf]; omega
      · have g47 : ((c.toNat : Int) == 47) = false := byte_f _ 47 (by omega) 47 rfl h47
        have n47 : ((c.toNat : Int) != 47) = true := by rw [bne, g47]; rfl
        have e47 : decide ((c.toNat : Int) = 47) = false := by rw [← g47]; rfl
        have HQ2 : Hid (quoL (p.take (k + 1)) = quoL (p.take k) ++ ([92] ++ [c])) := Lib.hid (by rw [HQ.out, quoL_cons h47]; rfl)
        clear h47 g47
        go_wp2_with fail
        go_round
        case rel => exact ⟨k + 1, by omega, by go_num, by rw [HQ2.out]; simp⟩
        case measure => simp [intOf]; omega
    · have HTK : Hid (p.take k = p) := Lib.hid (List.take_of_length_le (by omega))
      go_wp2_with fail
      go_ret
      rw [HTK.out]
      exact ⟨rfl, rfl⟩
theorem skips_from {w0 rb : Nat} {w1 : World} {rs : List RuleN} (h : RulesAt (fun k => w0 ≤ k ∧ k < w1.heap.size) w1 rb rs) (hE : PEnv w1) : ∀ W, Below w1.heap.size w1 W → ∀ (s : Txt) (b : Bool), s.length ≤ 4194300 → skipsB rs s = b →
    Calls Tryd.prog 16 #[.pointer (some ⟨rb, 0, none⟩), .string ⟨s.toArray⟩] W fun e w' => e = .returned (.bool b) ∧ Below W.heap.size W w' := fun W hb s _ hs hm =>
  skips_yes (fun k => k < w1.heap.size) rb rs s W (fun _ hk => Nat.lt_of_lt_of_le hk hb.size) (h.kept (fun k hk => ⟨hk.2, hb.block k hk.2⟩)) (hE.on hb) hs hm
set_option maxRecDepth 100000 in
set_option maxHeartbeats 8000000 in
theorem last_law (S : Nat → Prop) (v : Value) (L : List Txt) (p : Txt) (w : World) (hS : ∀ k, S k → k < w.heap.size) (hv : StrsC S w v L) (hE : PEnv w) (hp : p.length ≤ 1048576) (hL : L.length ≤ 1048576) (hT : ∀ y ∈ L, y.length ≤ 1048576) :
    Calls Tryd.prog 7 #[v, .string ⟨p.toArray⟩] w fun e w' => e = .returned (.bool true) ∧ Below w.heap.size w w' := by
  obtain ⟨i0, hi, hz0, hz1, hz2⟩ := info_parts Tryd.info9s
  obtain ⟨la, lc, rfl⟩ := hv.shape
  have HV := Lib.hid (fun (W : World) (hb : Below w.heap.size w W) => hv.kept (S' := S) (w' := W) (fun k hk => ⟨hk, hb.block k (hS k hk)⟩))
  have HS := Lib.hid hS
  have HT := Lib.hid hT
  have HE := Lib.hid hE
  have HAW := Lib.hid (awake_any w hE)
  clear hv hE hT hS
  go_enter Tryd.func7, Tryd.ntmps7
  go_wp2_with fail
  refine HAW.out.mono ?_
  rintro e w1 ⟨rfl, hb1⟩
  have HB1 := Lib.hid hb1
  have HC := Lib.hid (check_any p w1 (by omega) (HE.out.on hb1))
  obtain ⟨cp, hcp⟩ : ∃ c, checkN p = c := ⟨_, rfl⟩
  rw [hcp] at HC
  have HCP := Lib.hid hcp
  clear hb1 HAW hcp
  go_wp2_with fail
  refine HC.out.mono ?_
  rintro e w2 ⟨rfl, hb2⟩
  have HB2 : Hid (Below w.heap.size w w2) := Lib.hid (HB1.out.trans (hb2.mono HB1.out.size))
  clear hb2 HC HB1
  by_cases h0 : cp = 0
  case neg =>
    have g0 : (cp == 0) = false := beq_eq_false_iff_ne.2 h0
    have n0 : (cp != 0) = true := by rw [bne, g0]; rfl
    go_wp2_with fail
    go_ret
    exact ⟨rfl, HB2.out⟩
  subst h0
  by_cases h120 : 120 < p.length
  · go_wp2_with fail
    go_ret
    exact ⟨rfl, HB2.out⟩
  by_cases h30 : 30 < L.length
  · go_wp2_with fail
    go_ret
    exact ⟨rfl, HB2.out⟩
  have HNW := Lib.hid (new_any S _ L w2 (fun k hk => Nat.lt_of_lt_of_le (HS.out k hk) HB2.out.size) (HV.out w2 HB2.out) (by omega) (fun x hx => by have := HT.out x hx; omega) (HE.out.on HB2.out))
  go_wp2_with fail
  refine HNW.out.mono ?_
  intro e w3 h3
  cases hn : newGo 0 L with
  | error q =>
    obtain ⟨c, j⟩ := q
    rw [hn] at h3
    obtain ⟨rfl, hb3⟩ := h3
    have HB3 : Hid (Below w.heap.size w w3) := Lib.hid (HB2.out.trans (hb3.mono HB2.out.size))
    have hc0 : (c != 0) = true := by
      rcases new_err hn with h | h <;> subst h <;> rfl
    clear hb3 hn HNW
    go_wp2_with fail
    go_ret
    exact ⟨rfl, HB3.out⟩
  | ok rs =>
    rw [hn] at h3
    obtain ⟨rb, rfl, hr3, hb3⟩ := h3
    have HB3 : Hid (Below w.heap.size w w3) := Lib.hid (HB2.out.trans (hb3.mono HB2.out.size))
    have HR3 := Lib.hid hr3
    have HNM := Lib.hid (new_more HCP.out (by omega) hn)
    have HNL := Lib.hid (new_less HCP.out (by omega) hn)
    have HQS := Lib.hid (fun W => quoted_same p W hp)
    have hql : (quoL p).length ≤ 240 := by have := quoL_len p; omega
    have HE0 := Lib.hid (ownS_empty w3)
    have SRC1 : Hid (Src Tryd.prog 1 30 (.slice la L.length lc) L.length (sv L) (w3.alloc (.cells #[] 9))) := Lib.hid (HV.out _ (HB3.out.alloc HB3.out.size _)).srcS
    have HZ : Hid (Below w3.heap.size w3 w3) := Lib.hid (Below.refl _ _)
    clear hb3 hr3 hn HNW
    go_wp2_with (at_builtin; refine wpList_own_src _ rfl _ _ 30 30 rfl w3.heap.size 9 i0 (.string ByteArray.empty) 1 16 Tryd.underlying30 hi hz0 hz1 hz2 rfl (by decide) _ _ _ rfl HE0.out _ L.length (sv L) rfl SRC1.out (by unfold maxLen; simp; omega) (by simp; omega) (by simp) ?_)
    intro v4 w4 hown4 hg4
    have O4 : Hid (OwnS w4 w3.heap.size v4 L) := Lib.hid (by have h := ownS_more (l := []) (r := L) (by simp) hown4; exact h)
    have B4 : Hid (Below w3.heap.size w3 w4) := Lib.hid ((HZ.out.alloc (Nat.le_refl _) _).grown hg4.gb (by simp) (fun q hq => (World.ownsRow.lt HE0.out q hq).1))
    obtain ⟨a4, c4, rfl⟩ := ownS_slice O4.out
    clear hown4 hg4 HE0 SRC1
    have hs4 := B4.out.size
    have O4a : Hid (OwnS (w4.alloc (.cells #[.string ⟨(quoL p).toArray⟩] 9)) w3.heap.size (.slice a4 L.length c4) L) := Lib.hid (World.ownsRow.alloc O4.out _)
    have B4a : Hid (Below w3.heap.size w3 (w4.alloc (.cells #[.string ⟨(quoL p).toArray⟩] 9))) := Lib.hid (B4.out.alloc hs4 _)
    have SRC2 := Lib.hid (srcS_one w4 ⟨(quoL p).toArray⟩)
    go_wp2_with fail
    refine (HQS.out w4).mono ?_
    rintro e w4' ⟨rfl, hw⟩
    rw [hw]
    clear hw
    go_wp2_with (at_builtin; refine wpList_own_src _ rfl _ _ 30 30 rfl w3.heap.size 9 i0 (.string ByteArray.empty) 1 16 Tryd.underlying30 hi hz0 hz1 hz2 rfl (by decide) _ _ _ rfl O4a.out _ 1 [.string ⟨(quoL p).toArray⟩] rfl SRC2.out (by unfold maxLen; omega) (by omega) (by simp; omega) ?_)
    intro v5 w5 hown5 hg5
    have O5 : Hid (OwnS w5 w3.heap.size v5 (L ++ [quoL p])) := Lib.hid (ownS_push hown5)
    have B5 : Hid (Below w3.heap.size w3 w5) := Lib.hid (B4a.out.grown hg5.gb B4a.out.size (fun q hq => (World.ownsRow.lt O4a.out q hq).1))
    have HW5 : Hid (Below w.heap.size w w5) := Lib.hid (HB3.out.trans (B5.out.mono HB3.out.size))
    have hnw5 := new_any _ v5 (L ++ [quoL p]) w5 (fun k hk => hk.2) (ownS_c O5.out) (by simp; omega) (fun x hx => by
      rcases List.mem_append.1 hx with h | h
      · have := HT.out x h; omega
      · rw [List.mem_singleton] at h; rw [h]; omega) (HE.out.on HW5.out)
    rw [HNM.out] at hnw5
    have HN5 := Lib.hid hnw5
    clear hown5 hg5 O4 O4a SRC2 B4 B4a hnw5
    go_wp2_with fail
    refine HN5.out.mono ?_
    rintro e w6 ⟨rb2, rfl, hr6, hb6⟩
    have HS6 : Hid (Below w3.heap.size w3 w6) := Lib.hid (B5.out.trans (hb6.mono B5.out.size))
    have HR6 := Lib.hid hr6
    have HB6 : Hid (Below w.heap.size w w6) := Lib.hid (HW5.out.trans (hb6.mono HW5.out.size))
    have HE6 := Lib.hid (ownS_empty w6)
    have SRC6 : Hid (Src Tryd.prog 1 30 (.slice la L.length lc) L.length (sv L) (w6.alloc (.cells #[] 9))) := Lib.hid (HV.out _ (HB6.out.alloc HB6.out.size _)).srcS
    have HZ6 : Hid (Below w6.heap.size w6 w6) := Lib.hid (Below.refl _ _)
    clear hr6 hb6 HN5 O5 B5 HW5 HZ
    go_wp2_with (at_builtin; refine wpList_own_src _ rfl _ _ 30 30 rfl w6.heap.size 9 i0 (.string ByteArray.empty) 1 16 Tryd.underlying30 hi hz0 hz1 hz2 rfl (by decide) _ _ _ rfl HE6.out _ L.length (sv L) rfl SRC6.out (by unfold maxLen; simp; omega) (by simp; omega) (by simp) ?_)
    intro v7 w7 hown7 hg7
    have O7 : Hid (OwnS w7 w6.heap.size v7 L) := Lib.hid (by have h := ownS_more (l := []) (r := L) (by simp) hown7; exact h)
    have B7 : Hid (Below w6.heap.size w6 w7) := Lib.hid ((HZ6.out.alloc (Nat.le_refl _) _).grown hg7.gb (by simp) (fun q hq => (World.ownsRow.lt HE6.out q hq).1))
    obtain ⟨a7, c7, rfl⟩ := ownS_slice O7.out
    clear hown7 hg7 HE6 SRC6
    have hs7 := B7.out.size
    have O7a : Hid (OwnS (w7.alloc (.cells #[.string ⟨(33 :: quoL p).toArray⟩] 9)) w6.heap.size (.slice a7 L.length c7) L) := Lib.hid (World.ownsRow.alloc O7.out _)
    have B7a : Hid (Below w6.heap.size w6 (w7.alloc (.cells #[.string ⟨(33 :: quoL p).toArray⟩] 9))) := Lib.hid (B7.out.alloc hs7 _)
    have SRC7 := Lib.hid (srcS_one w7 ⟨(33 :: quoL p).toArray⟩)
    go_wp2_with fail
    refine (HQS.out w7).mono ?_
    rintro e w7' ⟨rfl, hw⟩
    rw [hw]
    clear hw
    go_wp2_with (at_builtin; refine wpList_own_src _ rfl _ _ 30 30 rfl w6.heap.size 9 i0 (.string ByteArray.empty) 1 16 Tryd.underlying30 hi hz0 hz1 hz2 rfl (by decide) _ _ _ rfl O7a.out _ 1 [.string ⟨(33 :: quoL p).toArray⟩] rfl SRC7.out (by unfold maxLen; omega) (by omega) (by simp; omega) ?_)
    intro v8 w8 hown8 hg8
    have O8 : Hid (OwnS w8 w6.heap.size v8 (L ++ [33 :: quoL p])) := Lib.hid (ownS_push hown8)
    have B8 : Hid (Below w6.heap.size w6 w8) := Lib.hid (B7a.out.grown hg8.gb B7a.out.size (fun q hq => (World.ownsRow.lt O7a.out q hq).1))
    have HW8 : Hid (Below w.heap.size w w8) := Lib.hid (HB6.out.trans (B8.out.mono HB6.out.size))
    have hnw8 := new_any _ v8 (L ++ [33 :: quoL p]) w8 (fun k hk => hk.2) (ownS_c O8.out) (by simp; omega) (fun x hx => by
      rcases List.mem_append.1 hx with h | h
      · have := HT.out x h; omega
      · rw [List.mem_singleton] at h; rw [h]; simp; omega) (HE.out.on HW8.out)
    rw [HNL.out] at hnw8
    have HN8 := Lib.hid hnw8
    clear hown8 hg8 O7 O7a SRC7 B7 B7a hnw8
    go_wp2_with fail
    refine HN8.out.mono ?_
    rintro e w9 ⟨rb3, rfl, hr9, hb9⟩
    have HS9 : Hid (Below w6.heap.size w6 w9) := Lib.hid (B8.out.trans (hb9.mono B8.out.size))
    have HB9 : Hid (Below w.heap.size w w9) := Lib.hid (HW8.out.trans (hb9.mono HW8.out.size))
    have HK9 := Lib.hid (skips_from hr9 (HE.out.on HB9.out))
    have HK6 := Lib.hid (skips_from HR6.out (HE.out.on HB6.out))
    have HK3 := Lib.hid (skips_from HR3.out (HE.out.on HB3.out))
    have HC6 : Hid (∀ W, Below w9.heap.size w9 W → Below w6.heap.size w6 W) := Lib.hid (fun W h => HS9.out.trans (h.mono HS9.out.size))
    have HC3 : Hid (∀ W, Below w9.heap.size w9 W → Below w3.heap.size w3 W) := Lib.hid (fun W h => HS6.out.trans ((HC6.out W h).mono HS6.out.size))
    clear hr9 hb9 HN8 O8 B8 HW8 HR3 HR6 HZ6
    go_wp2_with fail
    refine (HK6.out w9 (HC6.out _ (Below.refl _ _)) p true (by omega) (more_skips HCP.out rs)).mono ?_
    rintro e w10 ⟨rfl, hb10⟩
    have HB10 := Lib.hid hb10
    clear hb10
    have HPA := Lib.hid (parent_any p w10 (by omega))
    have HLA := Lib.hid (less_above HCP.out rs)
    have HUP := Lib.hid (under_parent HCP.out)
    have hpl : (parentN p).length ≤ 1048576 := by unfold parentN; rw [List.length_take]; omega
    obtain ⟨f, hf⟩ : ∃ f, parentN p = f := ⟨_, rfl⟩
    rw [hf] at HPA HLA HUP hpl
    clear hf
    go_wp2_with fail
    refine HPA.out.mono ?_
    rintro e w10' ⟨rfl, hw⟩
    rw [← hw]
    clear hw HPA
    have HUN := Lib.hid (fun W => runder_any p f W (by omega))
    rw [HUP.out] at HUN
    by_cases hf0 : f = []
    · subst hf0
      have HLB : Hid (skipsB (rs ++ [⟨litP (namesL p), true⟩]) p = false) := Lib.hid (by rw [HLA.out]; rfl)
      go_wp2_with fail
      refine (HK9.out w10 HB10.out p false (by omega) HLB.out).mono ?_
      rintro e w11 ⟨rfl, hb11⟩
      have HB11 : Hid (Below w9.heap.size w9 w11) := Lib.hid (HB10.out.trans (hb11.mono HB10.out.size))
      clear hb11
      go_wp2_with fail
      refine (HUN.out w11).mono ?_
      rintro e w11' ⟨rfl, hw⟩
      rw [← hw]
      clear hw
      go_wp2_with fail
      go_ret
      exact ⟨rfl, HB9.out.trans (HB11.out.mono HB9.out.size)⟩
    · have g0 : f.isEmpty = false := by cases f; exact absurd rfl hf0; rfl
      obtain ⟨ab, hab⟩ : ∃ b, skipsB rs f = b := ⟨_, rfl⟩
      have HLB : Hid (skipsB (rs ++ [⟨litP (namesL p), true⟩]) p = ab) := Lib.hid (by rw [HLA.out, g0, hab]; rfl)
      have HAB := Lib.hid hab
      clear hab hf0
      go_wp2_with fail
      refine (HK3.out w10 (HC3.out _ HB10.out) f ab (by omega) HAB.out).mono ?_
      rintro e w11 ⟨rfl, hb11⟩
      have HB11 : Hid (Below w9.heap.size w9 w11) := Lib.hid (HB10.out.trans (hb11.mono HB10.out.size))
      clear hb11
      go_wp2_with fail
      refine (HK9.out w11 HB11.out p ab (by omega) HLB.out).mono ?_
      rintro e w12 ⟨rfl, hb12⟩
      have HB12 : Hid (Below w9.heap.size w9 w12) := Lib.hid (HB11.out.trans (hb12.mono HB11.out.size))
      clear hb12
      have ge : (ab == ab) = true := by cases ab <;> rfl
      go_wp2_with fail
      refine (HUN.out w12).mono ?_
      rintro e w12' ⟨rfl, hw⟩
      rw [← hw]
      clear hw
      go_wp2_with fail
      go_ret
      exact ⟨rfl, HB9.out.trans (HB12.out.mono HB9.out.size)⟩
end Go.Proofs.YtkecpmhpdginpaaDoor
