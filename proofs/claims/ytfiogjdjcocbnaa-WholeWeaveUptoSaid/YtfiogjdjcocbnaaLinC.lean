/- The walks of slices.Clone, slices.Equal at texts; of the reference's Same. -/
import Derived.Test.YtfiogjdjcocbnaaCells
import Derived.Deep.QuietTactic
import Derived.BigQuiet
namespace Go.Proofs.Ytfiogjdjcocbnaa
open Go.RowKit

theorem run_eql_nilS (w : World) (a : Option Addr) (l c : Nat) : (binOp .eql 24 (.slice a l c) (.slice none 0 0)).run Try.prog w = .ok (.bool a.isNone) w := by
  have h := run_equal_slice_nil (P := Try.prog) (w := w) 24 9 a l c Try.underlying24
  simp [binOp, h]
set_option maxRecDepth 100000 in
set_option maxHeartbeats 1000000 in
theorem clone_any (S : Nat → Prop) (v : Value) (l : List (List UInt8)) (w : World) (hS : ∀ k, S k → k < w.heap.size) (h : StrsC S w v l) (hl : l.length ≤ 4194304) :
    Calls Try.prog 49 #[v] w fun e w' => ∃ v', e = .returned v' ∧ OwnS w' w.heap.size v' l ∧ Below w.heap.size w w' := by
  obtain ⟨i0, hi, hz0, hz1, hz2⟩ := info_parts Try.info9s
  obtain ⟨a, c, rfl⟩ := h.shape
  have heq := fun W => run_eql_nilS W a l.length c
  cases a with
  | none =>
    have hl0 : l = [] := by
      rcases Nat.eq_zero_or_pos l.length with e | e
      · exact List.length_eq_zero_iff.1 e
      · obtain ⟨g, o, e, _⟩ := h.at e; cases e
    subst hl0
    have HR := Lib.hid (Below.refl w.heap.size w)
    have heq0 := fun W => run_eql_nilS W none 0 c
    clear h hS heq
    go_enter Try.func49, Try.ntmps49
    go_wp2_with fail
    go_ret
    exact ⟨_, rfl, ownS_nil _ _, HR.out⟩
  | some a =>
    have H := Lib.hid h
    have HS := Lib.hid hS
    have HO := Lib.hid (ownS_empty w)
    have SRC : Hid (Src Try.prog 1 24 (.slice (some a) l.length c) l.length (sv l) (w.alloc (.cells #[] 9))) := Lib.hid (h.kept (S' := S) (fun k hk => ⟨hk, Below.heap_alloc w _ k (hS k hk)⟩)).src
    have HB := Lib.hid ((Below.refl w.heap.size w).alloc (Nat.le_refl _) (.cells #[] 9))
    clear h hS
    go_enter Try.func49, Try.ntmps49
    go_wp2_with (at_builtin; refine wpList_own_src _ rfl _ _ 24 24 rfl w.heap.size 9 i0 (.string ByteArray.empty) 1 16 Try.underlying24 hi hz0 hz1 hz2 rfl (by decide) _ _ _ rfl HO.out _ l.length (sv l) rfl SRC.out (by unfold maxLen; simp; omega) (by simp; omega) (by simp) ?_)
    intro v5 w5 hown5 hg5
    have O5 : Hid (OwnS w5 w.heap.size v5 l) := Lib.hid (ownS_more (l := []) (by simp) hown5)
    have B5 : Hid (Below w.heap.size w w5) := Lib.hid (HB.out.grown hg5.gb (by simp) (fun q hq => by simp [Value.ownBlock] at hq; omega))
    clear hown5 hg5
    go_wp2_with fail
    go_ret
    exact ⟨_, rfl, O5.out, B5.out⟩
theorem eq_step {a b : List (List UInt8)} {k : Nat} (ha : k < a.length) (hb : k < b.length) (h : a.take k = b.take k) (e : a.getD k [] = b.getD k []) : a.take (k + 1) = b.take (k + 1) := by
  rw [take_snoc (d := []) ha, take_snoc (d := []) hb, h, e]
theorem eq_stop {a b : List (List UInt8)} {k : Nat} (e : a.getD k [] ≠ b.getD k []) : decide (a = b) = false := by
  apply decide_eq_false
  rintro rfl
  exact e rfl
set_option maxRecDepth 100000 in
set_option maxHeartbeats 2000000 in
theorem equal_any (S T : Nat → Prop) (va vb : Value) (a b : List (List UInt8)) (w : World) (ha : StrsC S w va a) (hb : StrsC T w vb b) (hal : a.length ≤ 4194304) (hbl : b.length ≤ 4194304) :
    Calls Try.prog 61 #[va, vb] w fun e w' => e = .returned (.bool (decide (a = b))) ∧ ∃ n, w' = w.drewN n := by
  obtain ⟨aa, ac, rfl⟩ := ha.shape
  obtain ⟨ba, bc, rfl⟩ := hb.shape
  generalize hq : decide (a = b) = q
  have Q := Lib.hid hq
  clear hq
  by_cases hlen : a.length = b.length
  · have HA := Lib.hid ha
    have HB := Lib.hid hb
    have g0 : ((a.length : Int) != (b.length : Int)) = false := by rw [hlen]; simp
    have HL := Lib.hid hlen
    clear ha hb hlen
    go_enter Try.func61, Try.ntmps61
    go_wp2_with fail
    go_loopw [5, 13] (fun _ i wr => ∃ k n : Nat, k ≤ a.length ∧ i = .int .i64 k ∧ Hid (a.take k = b.take k) ∧ wr = w.drewN n) (fun _ i _ => a.length - (intOf i).toNat)
    case atStart => exact ⟨0, 0, Nat.zero_le _, rfl, Lib.hid rfl, rfl⟩
    case round =>
      obtain ⟨k, n, hk, rfl, he, rfl⟩ := hrel
      by_cases hlt : k < a.length
      · have hltb : k < b.length := by have := HL.out; omega
        obtain ⟨ga, oa, rfl, _, _, _, hxa⟩ := HA.out.at (by omega)
        obtain ⟨gb, ob, rfl, _, _, _, hxb⟩ := HB.out.at (by omega)
        have c1 := hxa k hlt
        have c2 := hxb k hltb
        have HE1 : Hid (a.getD k [] = b.getD k [] → a.take (k + 1) = b.take (k + 1)) := Lib.hid (fun e => eq_step hlt hltb he.out e)
        have HE2 : Hid (a.getD k [] ≠ b.getD k [] → q = false) := Lib.hid (fun e => by rw [← Q.out]; exact eq_stop e)
        generalize a.getD k [] = x at *
        generalize b.getD k [] = y at *
        clear hxa hxb g0
        by_cases hxy : x = y
        · have gx : (x == y) = true := by rw [hxy]; simp
          have HE := Lib.hid (HE1.out hxy)
          clear hxy
          go_wp2_with fail
          go_quiet (fail)
          go_wp2_with fail
          go_roundw
          case rel => exact ⟨k + 1, _, by omega, by go_num, HE, rfl⟩
          case measure => simp [intOf]; omega
        · have gx : (x == y) = false := by simpa using hxy
          have HE := Lib.hid (HE2.out hxy)
          clear hxy
          go_wp2_with fail
          go_quiet (fail)
          go_wp2_with fail
          go_ret
          exact ⟨by rw [HE.out]; rfl, _, World.drewN_drewN _ _ _⟩
      · have hkl : k = a.length := by omega
        have HQ : Hid (q = true) := Lib.hid (Q.out.symm.trans <| decide_eq_true (by
          have := he.out
          rwa [hkl, List.take_length, HL.out, List.take_length] at this))
        clear hkl g0
        go_wp2_with fail
        go_ret
        exact ⟨by rw [HQ.out]; rfl, n, rfl⟩
  · have HQ : Hid (q = false) := Lib.hid (Q.out.symm.trans <| decide_eq_false (fun e => hlen (by rw [e])))
    have g0 : ((a.length : Int) != (b.length : Int)) = true := by rw [bne_iff_ne]; omega
    clear ha hb hlen
    go_enter Try.func61, Try.ntmps61
    go_wp2_with fail
    go_ret
    exact ⟨by rw [HQ.out]; rfl, 0, rfl⟩
set_option maxRecDepth 100000 in
set_option maxHeartbeats 2000000 in
theorem same_any (S T : Nat → Prop) (va vb : Value) (a b : List (List UInt8)) (w : World) (ha : StrsC S w va a) (hb : StrsC T w vb b) (hal : a.length ≤ 4194304) (hbl : b.length ≤ 4194304) :
    Calls Try.prog 20 #[va, vb] w fun e w' => e = .returned (.bool (decide (a = b))) ∧ ∃ n, w' = w.drewN n := by
  obtain ⟨aa, ac, rfl⟩ := ha.shape
  obtain ⟨ba, bc, rfl⟩ := hb.shape
  generalize hq : decide (a = b) = q
  have Q := Lib.hid hq
  clear hq
  by_cases hlen : a.length = b.length
  · have HA := Lib.hid ha
    have HB := Lib.hid hb
    have g0 : ((a.length : Int) != (b.length : Int)) = false := by rw [hlen]; simp
    have HL := Lib.hid hlen
    clear ha hb hlen
    go_enter Try.func20, Try.ntmps20
    go_wp2_with fail
    go_loopw [5] (fun i wr => ∃ k n : Nat, k ≤ a.length ∧ i = .int .i64 k ∧ Hid (a.take k = b.take k) ∧ wr = w.drewN n) (fun i _ => a.length - (intOf i).toNat)
    case atStart => exact ⟨0, 0, Nat.zero_le _, rfl, Lib.hid rfl, rfl⟩
    case round =>
      obtain ⟨k, n, hk, rfl, he, rfl⟩ := hrel
      by_cases hlt : k < a.length
      · have hltb : k < b.length := by have := HL.out; omega
        obtain ⟨ga, oa, rfl, _, _, _, hxa⟩ := HA.out.at (by omega)
        obtain ⟨gb, ob, rfl, _, _, _, hxb⟩ := HB.out.at (by omega)
        have c1 := hxa k hlt
        have c2 := hxb k hltb
        have HE1 : Hid (a.getD k [] = b.getD k [] → a.take (k + 1) = b.take (k + 1)) := Lib.hid (fun e => eq_step hlt hltb he.out e)
        have HE2 : Hid (a.getD k [] ≠ b.getD k [] → q = false) := Lib.hid (fun e => by rw [← Q.out]; exact eq_stop e)
        generalize a.getD k [] = x at *
        generalize b.getD k [] = y at *
        clear hxa hxb g0
        by_cases hxy : x = y
        · have gx : (x == y) = true := by rw [hxy]; simp
          have HE := Lib.hid (HE1.out hxy)
          clear hxy
          go_wp2_with fail
          go_quiet (fail)
          go_wp2_with fail
          go_roundw
          case rel => exact ⟨k + 1, _, by omega, by go_num, HE, rfl⟩
          case measure => simp [intOf]; omega
        · have gx : (x == y) = false := by simpa using hxy
          have HE := Lib.hid (HE2.out hxy)
          clear hxy
          go_wp2_with fail
          go_quiet (fail)
          go_wp2_with fail
          go_ret
          exact ⟨by rw [HE.out]; rfl, _, World.drewN_drewN _ _ _⟩
      · have hkl : k = a.length := by omega
        have HQ : Hid (q = true) := Lib.hid (Q.out.symm.trans <| decide_eq_true (by
          have := he.out
          rwa [hkl, List.take_length, HL.out, List.take_length] at this))
        clear hkl g0
        go_wp2_with fail
        go_ret
        exact ⟨by rw [HQ.out]; rfl, n, rfl⟩
  · have HQ : Hid (q = false) := Lib.hid (Q.out.symm.trans <| decide_eq_false (fun e => hlen (by rw [e])))
    have g0 : ((a.length : Int) != (b.length : Int)) = true := by rw [bne_iff_ne]; omega
    clear ha hb hlen
    go_enter Try.func20, Try.ntmps20
    go_wp2_with fail
    go_ret
    exact ⟨by rw [HQ.out]; rfl, 0, rfl⟩
end Go.Proofs.Ytfiogjdjcocbnaa
