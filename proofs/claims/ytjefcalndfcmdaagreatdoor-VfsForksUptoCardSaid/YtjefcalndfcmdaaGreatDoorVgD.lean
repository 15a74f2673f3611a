/- The reference's names behind a change: the walk of do. -/
import Derived.Test.YtjefcalndfcmdaaGreatDoorVgABC
import Derived.Deep.QuietTactic
namespace Go.Proofs.YtjefcalndfcmdaaGreatDoor
open Go.RowKit Go.Maps
attribute [local go_sem ↓] Go.wp_at_zero Go.wp_at_succ
theorem und_nms : Tryz.prog.underlying 30 = some (.slice (Tryz.prog.elem 30)) := by kernel_rfl
theorem size_nms (W : World) : (sizeOf (Tryz.prog.elem 30)).run Tryz.prog W = .ok 2 W := by kernel_rfl
theorem nm_box (w : World) (x y z : Value) (t : TypeId) : (w.alloc (.cells #[x, y, z] t)).cell? ⟨w.heap.size, 0, none⟩ = some x :=
  (cell_of_row _ _ _ _ _ _ (new_five w _ _)).trans rfl
theorem ownN_empty (w : World) : OwnN (w.alloc (.cells #[] 72)) w.heap.size (.slice (some ⟨w.heap.size, 0, none⟩) 0 0) [] :=
  ⟨rfl, Or.inr ⟨w.heap.size, 0, #[], rfl, Nat.le_refl _, new_five w _ _, Nat.le_refl _, Nat.zero_le _, rfl, rfl⟩⟩
theorem ownN_more {w2 : World} {B n : Nat} {v : Value} {l r : Dir} (hn : n = l.length + r.length) (h : w2.ownsRow B 72 2 v n (nmV l ++ nmV r)) : OwnN w2 B v (l ++ r) := by
  unfold OwnN
  rw [nmV_append, List.length_append, ← hn]; exact h
theorem less_iff (a b : Nm) : Op.bytesLess a b = decide (a < b) := by
  induction a generalizing b with
  | nil => cases b with
    | nil => simp [Op.bytesLess]
    | cons y b => simp [Op.bytesLess]
  | cons x a ih => cases b with
    | nil => rw [less_nil]; simp
    | cons y b =>
      by_cases h : x = y
      · subst h; rw [less_cons_same, ih]; simp
      · rw [less_cons_ne h]; simp [List.cons_lt_cons_iff, h]
def DoP (S : Nat → Prop) (w : World) (l : Dir) (e : Ending) (w' : World) : Prop := ∃ v', e = .returned v' ∧ NmC (fun k => S k ∨ (w.heap.size ≤ k ∧ k < w'.heap.size)) w' v' l ∧ Below w.heap.size w w'
set_option maxRecDepth 100000 in
set_option maxHeartbeats 8000000 in
theorem rdo_any (S : Nat → Prop) (v : Value) (l : Dir) (gone come : Nm) (file : Option Nat) (w : World) (hv : NmC S w v l) (hS : ∀ k, S k → k < w.heap.size) (hl : l.length ≤ 4194304) (hr : Rise l) (hn : ∀ p ∈ l, p.1 ≠ []) :
    Calls Tryz.prog 66 #[v, .agg #[.string ⟨gone.toArray⟩, .string ⟨come.toArray⟩, .int .i64 (acI ⟨gone, come, file⟩)]] w (DoP S w (doA l ⟨gone, come, file⟩)) := by
  obtain ⟨la, lc, rfl⟩ := CellsC.shape hv
  have HV := Lib.hid hv
  have HS := Lib.hid hS
  have HR := Lib.hid hr
  have HN := Lib.hid hn
  obtain ⟨i0, hi, hz0, hz1, hz2⟩ := info_parts Tryz.info72n
  obtain ⟨fi, hfi⟩ : ∃ x, acI ⟨gone, come, file⟩ = x := ⟨_, rfl⟩
  rw [hfi]
  have HFI := Lib.hid hfi
  clear hv hS hr hn hfi
  go_enter Tryz.func66, Tryz.ntmps66
  have hb := nm_box w (.string ⟨gone.toArray⟩) (.string ⟨come.toArray⟩) (.int .i64 fi) 92
  have X2 := Lib.hid (new_five w #[.string ⟨gone.toArray⟩, .string ⟨come.toArray⟩, .int .i64 fi] 92)
  have B2 := Lib.hid ((Below.refl w.heap.size w).alloc (Nat.le_refl _) (.cells #[.string ⟨gone.toArray⟩, .string ⟨come.toArray⟩, .int .i64 fi] 92))
  have Z2 : Hid ((w.alloc (.cells #[.string ⟨gone.toArray⟩, .string ⟨come.toArray⟩, .int .i64 fi] 92)).heap.size = w.heap.size + 1) := Lib.hid (by simp)
  have N2 : Hid (NmC S (w.alloc (.cells #[.string ⟨gone.toArray⟩, .string ⟨come.toArray⟩, .int .i64 fi] 92)) (.slice la l.length lc) l) := Lib.hid (HV.out.kept (fun k hk => ⟨hk, Below.heap_alloc w _ k (HS.out k hk)⟩))
  by_cases hg : gone = []
  · have hg2 : (gone == []) = true := by rw [hg]; rfl
    have HL1 : Hid (wout l gone = l) := Lib.hid (by rw [hg]; exact wout_none HN.out)
    clear hg
    go_upto_region 3 with fail
    clear hb hg2
    generalize w.alloc (.cells #[.string ⟨gone.toArray⟩, .string ⟨come.toArray⟩, .int .i64 fi] 92) = w3 at *
    have XL : Hid (w.heap.size < w3.heap.size) := Lib.hid (by have := Z2.out; omega)
    have X3 := X2
    have B3 := B2
    have N3 : Hid (NmC (fun k => S k ∨ (w.heap.size ≤ k ∧ k < w3.heap.size)) w3 (.slice la l.length lc) l) := Lib.hid (N2.out.kept (fun k hk => ⟨Or.inl hk, rfl⟩))
    have HLL : Hid (l.length ≤ 4194304) := Lib.hid hl
    clear X2 B2 N2 Z2
    have z2 : w3.cell? ⟨w.heap.size, 2, none⟩ = some (.int .i64 fi) := (cell_of_row _ _ _ _ _ _ X3.out).trans rfl
    have z1 : w3.cell? ⟨w.heap.size, 1, none⟩ = some (.string ⟨come.toArray⟩) := (cell_of_row _ _ _ _ _ _ X3.out).trans rfl
    cases file with
    | none =>
      obtain rfl : (-1 : Int) = fi := HFI.out
      clear z1
      go_wp2_with fail
      go_ret
      exact ⟨_, rfl, by show NmC _ _ _ (wout l gone); rw [HL1.out]; exact N3.out, B3.out⟩
    | some i =>
      obtain rfl : (i : Int) = fi := HFI.out
      have y0 : decide ((i : Int) < 0) = false := decide_eq_false (by omega)
      have HWO := Lib.hid (rwout_any _ _ l come w3 N3.out (fun k hk => hk.elim (fun h => Nat.lt_of_lt_of_le (HS.out k h) B3.out.size) (fun h => h.2)) (by have := HLL.out; omega))
      go_wp2_with fail
      refine HWO.out.mono ?_
      rintro e w4 ⟨v4, rfl, o4, b4⟩
      clear y0 z1 z2 HWO
      obtain ⟨ta, tc, rfl⟩ := ownN_slice o4
      have X4 : Hid (w4.heap[w.heap.size]? = _) := Lib.hid ((b4.block _ XL.out).trans X3.out)
      have O4 := Lib.hid o4
      have B4 := Lib.hid b4
      have HT : Hid ((wout l come).length ≤ 4194304) := Lib.hid (by have h1 := wout_len l come; have := HLL.out; omega)
      obtain ⟨l2, hl2⟩ : ∃ q, wout l come = q := ⟨_, rfl⟩
      have HL2 := Lib.hid hl2
      rw [hl2] at O4 HT ⊢
      clear o4 b4 hl2
      have z1 : w4.cell? ⟨w.heap.size, 1, none⟩ = some (.string ⟨come.toArray⟩) := (cell_of_row _ _ _ _ _ _ X4.out).trans rfl
      have HIN : Hid (∀ k, k ≤ l2.length → (∀ p ∈ l2.drop k, come < p.1) → (k = 0 ∨ ¬ come < (l2.getD (k - 1) ([], 0)).1) → doA l ⟨gone, come, some i⟩ = l2.take k ++ (come, i) :: l2.drop k) := Lib.hid (fun k h1 h2 h3 => by
        show insD come i (wout (wout l gone) come) = _
        rw [HL1.out, HL2.out]
        exact insD_at (by rw [← HL2.out, ← HL1.out]; exact (HR.out.wout gone).wout come) h1 h2 h3)
      go_wp2_with fail
      go_loopw [5] (fun iv wr => ∃ k : Nat, k ≤ l2.length ∧ iv = .int .i64 (k : Int) ∧ Hid (∀ p ∈ l2.drop k, come < p.1) ∧ Hid (Below w4.heap.size w4 wr)) (fun iv _ => (intOf iv).toNat)
      case atStart => exact ⟨l2.length, Nat.le_refl _, rfl, Lib.hid (by rw [List.drop_length]; intro p hp; cases hp), Lib.hid (Below.refl _ _)⟩
      case round =>
        obtain ⟨k, hk, rfl, hD, hW⟩ := hrel
        have zr : wr.cell? ⟨w.heap.size, 1, none⟩ = some (.string ⟨come.toArray⟩) := (cell_of_row _ _ _ _ _ _ ((hW.out.block _ (by have := XL.out; have := B4.out.size; omega)).trans X4.out)).trans rfl
        clear z1
        by_cases hk0 : k = 0
        · have HEQ := Lib.hid (HIN.out k hk hD.out (Or.inl hk0))
          have yk2 : decide (0 < k) = false := decide_eq_false (by omega)
          have yk : decide ((k : Int) > 0) = false := decide_eq_false (by omega)
          have hk1 : ¬ 0 < k := by omega
          clear hk0
          go_wp2_with fail
          go_quiet (fail)
          go_upto_region 9 with fail
          have hWq : Hid (Below w4.heap.size w4 (wr.drewN nq)) := Lib.hid (hW.out.trans (drewn w4.heap.size wr nq))
          clear zr hW
          generalize wr.drewN nq = wq at *
          have ht := HT.out
          have hwz := hWq.out.size
          have OQ : Hid (OwnN wq w3.heap.size (.slice _ l2.length tc) l2) := Lib.hid (own_below O4.out (fun q _ hq => hWq.out.block q hq))
          obtain ⟨xa, xc, hr1, hs1⟩ := CellsC.cutH (ownN_c OQ.out) und_nms size_nms (hi := k) (by omega)
          obtain ⟨ya, yc, hr2, hs2⟩ := CellsC.cutL (ownN_c OQ.out) und_nms size_nms (lo := k) (by omega)
          rw [nmV_take] at hs1
          rw [nmV_drop] at hs2
          have HS1 := Lib.hid hs1
          have HS2 := Lib.hid hs2
          have XQ : Hid (wq.heap[w.heap.size]? = some (.cells #[.string ⟨gone.toArray⟩, .string ⟨come.toArray⟩, .int .i64 (i : Int)] 92 (0, 0))) := Lib.hid ((hWq.out.block _ (by have := XL.out; have := B4.out.size; omega)).trans X4.out)
          have LQ : Hid (w.heap.size < wq.heap.size) := Lib.hid (by have := XL.out; have := B4.out.size; omega)
          have HO := Lib.hid (ownN_empty wq)
          have SRC : Hid (Src Tryz.prog 2 30 (.slice xa k xc) k (nmV (l2.take k)) (wq.alloc (.cells #[] 72))) := Lib.hid ((CellsC.kept HS1.out (S' := fun _ => True) (fun k hk => ⟨trivial, Below.heap_alloc wq _ k hk.2⟩)).src Tryz.underlying30)
          have BQ := Lib.hid ((Below.refl wq.heap.size wq).alloc (Nat.le_refl _) (.cells #[] 72))
          clear hs1 hs2
          go_upto_region 10 with (at_builtin; refine wpList_own_src _ rfl _ _ 30 30 rfl wq.heap.size 72 i0 (.agg #[.string ByteArray.empty, .int .i64 0]) 2 24 Tryz.underlying30 hi hz0 hz1 hz2 rfl (by decide) _ _ _ rfl HO.out _ k _ rfl SRC.out (by unfold maxLen; simp; omega) (by simp; omega) (by simp) ?_; intro v5 w5 hown5 hg5)
          have O5 : Hid (OwnN w5 wq.heap.size v5 (l2.take k)) := Lib.hid (ownN_more (l := []) (by rw [List.length_take]; simp; omega) hown5)
          have B5 : Hid (Below wq.heap.size wq w5) := Lib.hid (BQ.out.grown hg5.gb (by simp) (fun q hq => Nat.le_of_eq (Option.some.inj hq)))
          clear hown5 hg5 hr1
          obtain ⟨ua, uc, rfl⟩ := ownN_slice O5.out
          have z5 : w5.cell? ⟨w.heap.size, 1, none⟩ = some (.string ⟨come.toArray⟩) := (cell_of_row _ _ _ _ _ _ ((B5.out.block _ LQ.out).trans XQ.out)).trans rfl
          have z6 : w5.cell? ⟨w.heap.size, 2, none⟩ = some (.int .i64 (i : Int)) := (cell_of_row _ _ _ _ _ _ ((B5.out.block _ LQ.out).trans XQ.out)).trans rfl
          go_upto_region 11 with (at_builtin; refine wpList_own_src _ rfl _ _ 30 30 rfl wq.heap.size 72 i0 (.agg #[.string ByteArray.empty, .int .i64 0]) 2 24 Tryz.underlying30 hi hz0 hz1 hz2 rfl (by decide) _ _ _ rfl (World.ownsRow.alloc O5.out _) _ 1 [.string ⟨come.toArray⟩, .int .i64 (i : Int)] rfl (srcN_one _ _ _) (by unfold maxLen; rw [List.length_take]; omega) (by rw [List.length_take]; omega) (by have := B5.out.size; simp; omega) ?_; intro v6 w6 hown6 hg6)
          have O6 : Hid (OwnN w6 wq.heap.size v6 (l2.take k ++ [(come, i)])) := Lib.hid (ownN_push hown6)
          have B6 : Hid (Below wq.heap.size wq w6) := Lib.hid ((B5.out.alloc B5.out.size _).grown hg6.gb (by have := B5.out.size; simp; omega) (fun j hj => (World.ownsRow.lt O5.out j hj).1))
          clear hown6 hg6 z5 z6
          obtain ⟨ta6, tc6, rfl⟩ := ownN_slice O6.out
          have hl6 : (l2.take k ++ [(come, i)]).length = k + 1 := by rw [List.length_append, List.length_take, Nat.min_eq_left (by omega)]; rfl
          have O6B : Hid (w6.ownsRow wq.heap.size 72 2 (.slice ta6 (k + 1) tc6) (k + 1) (nmV (l2.take k ++ [(come, i)]))) := Lib.hid (by have h := O6.out; unfold OwnN at h; rw [hl6] at h; exact h)
          rw [hl6]
          have HL6 := Lib.hid hl6
          clear hl6 O6
          have SR6 : Hid (Src Tryz.prog 2 30 (.slice ya (l2.length - k) yc) (l2.length - k) (nmV (l2.drop k)) w6) := Lib.hid ((CellsC.kept HS2.out (S' := fun _ => True) (fun k hk => ⟨trivial, B6.out.block k hk.2⟩)).src Tryz.underlying30)
          have hwq6 := B6.out.size
          go_wp2_with (at_builtin; refine wpList_own_src _ rfl _ _ 30 30 rfl wq.heap.size 72 i0 (.agg #[.string ByteArray.empty, .int .i64 0]) 2 24 Tryz.underlying30 hi hz0 hz1 hz2 rfl (by decide) _ _ _ rfl O6B.out _ (l2.length - k) _ rfl SR6.out (by unfold maxLen; omega) (by omega) hwq6 ?_)
          intro v7 w7 hown7 hg7
          have O7 : Hid (OwnN w7 wq.heap.size v7 ((l2.take k ++ [(come, i)]) ++ l2.drop k)) := Lib.hid (ownN_more (by rw [HL6.out, List.length_drop]) hown7)
          have B7 : Hid (Below wq.heap.size wq w7) := Lib.hid (B6.out.grown hg7.gb hwq6 (fun j hj => (World.ownsRow.lt O6B.out j hj).1))
          clear hown7 hg7 hr2
          go_wp2_with fail
          go_ret
          refine ⟨_, rfl, ?_, ?_⟩
          · rw [HEQ.out]
            have h := ownN_c O7.out
            rw [List.append_assoc] at h
            exact h.kept (fun k hk => ⟨Or.inr ⟨by have := LQ.out; omega, hk.2⟩, rfl⟩)
          · have h1 := B3.out.size
            have h2 := B4.out.size
            exact B3.out.trans ((B4.out.mono h1).trans ((hWq.out.mono (by omega)).trans (B7.out.mono (by omega))))
        · obtain ⟨m, hm⟩ : ∃ m : Nat, (k : Int) - 1 = (m : Int) := ⟨k - 1, by omega⟩
          have hml : m < l2.length := by omega
          have HM : Hid (k = m + 1) := Lib.hid (by omega)
          have yk : decide ((k : Int) > 0) = true := decide_eq_true (by omega)
          have yk2 : decide (0 < k) = true := decide_eq_true (by omega)
          have yk3 : 0 < k := by omega
          have hwk : IntKind.i64.wrap ((k : Int) - 1) = (m : Int) := by rw [hm]; exact IntWalk.i64_in _ (by have := HT.out; omega)
          obtain ⟨g1, o1, rfl, hSg, _, _, hat⟩ := CellsC.at (ownN_c O4.out) (by omega)
          have hc := nmV_at hml
          have c0 : wr.cell? ⟨g1, o1 + m * 2, none⟩ = some (.string ⟨(l2.getD m ([], 0)).1.toArray⟩) := (hW.out.cell (p := ⟨g1, o1 + m * 2, none⟩) hSg.2).trans (hat _ _ hc.1)
          clear hat hc hSg
          obtain ⟨q, hq⟩ : ∃ q, (l2.getD m ([], 0)).1 = q := ⟨_, rfl⟩
          rw [hq] at c0
          have HQ := Lib.hid hq
          clear hq
          by_cases hlt : come < q
          · have yl : Op.bytesLess come q = true := by rw [less_iff]; exact decide_eq_true hlt
            go_wp2_with fail
            go_quiet (fail)
            go_wp2_with fail
            exact ⟨⟨m, by omega, by go_num, Lib.hid (drop_step hml (by have h := hD.out; rw [HM.out] at h; exact h) (by rw [HQ.out]; exact hlt)), Lib.hid (hW.out.trans (drewn w4.heap.size wr nq))⟩, by simp [intOf]; omega⟩
          · go_wp2_with fail
            have yl : Op.bytesLess come q = false := by rw [less_iff]; exact decide_eq_false hlt
            have HEQ := Lib.hid (HIN.out k hk hD.out (Or.inr (by rw [show k - 1 = m by have := HM.out; omega, HQ.out]; exact hlt)))
            go_quiet (fail)
            go_upto_region 9 with fail
            have hWq : Hid (Below w4.heap.size w4 (wr.drewN nq)) := Lib.hid (hW.out.trans (drewn w4.heap.size wr nq))
            clear zr hW
            generalize wr.drewN nq = wq at *
            have ht := HT.out
            have hwz := hWq.out.size
            have OQ : Hid (OwnN wq w3.heap.size (.slice _ l2.length tc) l2) := Lib.hid (own_below O4.out (fun q _ hq => hWq.out.block q hq))
            obtain ⟨xa, xc, hr1, hs1⟩ := CellsC.cutH (ownN_c OQ.out) und_nms size_nms (hi := k) (by omega)
            obtain ⟨ya, yc, hr2, hs2⟩ := CellsC.cutL (ownN_c OQ.out) und_nms size_nms (lo := k) (by omega)
            rw [nmV_take] at hs1
            rw [nmV_drop] at hs2
            have HS1 := Lib.hid hs1
            have HS2 := Lib.hid hs2
            have XQ : Hid (wq.heap[w.heap.size]? = some (.cells #[.string ⟨gone.toArray⟩, .string ⟨come.toArray⟩, .int .i64 (i : Int)] 92 (0, 0))) := Lib.hid ((hWq.out.block _ (by have := XL.out; have := B4.out.size; omega)).trans X4.out)
            have LQ : Hid (w.heap.size < wq.heap.size) := Lib.hid (by have := XL.out; have := B4.out.size; omega)
            have HO := Lib.hid (ownN_empty wq)
            have SRC : Hid (Src Tryz.prog 2 30 (.slice xa k xc) k (nmV (l2.take k)) (wq.alloc (.cells #[] 72))) := Lib.hid ((CellsC.kept HS1.out (S' := fun _ => True) (fun k hk => ⟨trivial, Below.heap_alloc wq _ k hk.2⟩)).src Tryz.underlying30)
            have BQ := Lib.hid ((Below.refl wq.heap.size wq).alloc (Nat.le_refl _) (.cells #[] 72))
            clear hs1 hs2
            go_upto_region 10 with (at_builtin; refine wpList_own_src _ rfl _ _ 30 30 rfl wq.heap.size 72 i0 (.agg #[.string ByteArray.empty, .int .i64 0]) 2 24 Tryz.underlying30 hi hz0 hz1 hz2 rfl (by decide) _ _ _ rfl HO.out _ k _ rfl SRC.out (by unfold maxLen; simp; omega) (by simp; omega) (by simp) ?_; intro v5 w5 hown5 hg5)
            have O5 : Hid (OwnN w5 wq.heap.size v5 (l2.take k)) := Lib.hid (ownN_more (l := []) (by rw [List.length_take]; simp; omega) hown5)
            have B5 : Hid (Below wq.heap.size wq w5) := Lib.hid (BQ.out.grown hg5.gb (by simp) (fun q hq => Nat.le_of_eq (Option.some.inj hq)))
            clear hown5 hg5 hr1
            obtain ⟨ua, uc, rfl⟩ := ownN_slice O5.out
            have z5 : w5.cell? ⟨w.heap.size, 1, none⟩ = some (.string ⟨come.toArray⟩) := (cell_of_row _ _ _ _ _ _ ((B5.out.block _ LQ.out).trans XQ.out)).trans rfl
            have z6 : w5.cell? ⟨w.heap.size, 2, none⟩ = some (.int .i64 (i : Int)) := (cell_of_row _ _ _ _ _ _ ((B5.out.block _ LQ.out).trans XQ.out)).trans rfl
            go_upto_region 11 with (at_builtin; refine wpList_own_src _ rfl _ _ 30 30 rfl wq.heap.size 72 i0 (.agg #[.string ByteArray.empty, .int .i64 0]) 2 24 Tryz.underlying30 hi hz0 hz1 hz2 rfl (by decide) _ _ _ rfl (World.ownsRow.alloc O5.out _) _ 1 [.string ⟨come.toArray⟩, .int .i64 (i : Int)] rfl (srcN_one _ _ _) (by unfold maxLen; rw [List.length_take]; omega) (by rw [List.length_take]; omega) (by have := B5.out.size; simp; omega) ?_; intro v6 w6 hown6 hg6)
            have O6 : Hid (OwnN w6 wq.heap.size v6 (l2.take k ++ [(come, i)])) := Lib.hid (ownN_push hown6)
            have B6 : Hid (Below wq.heap.size wq w6) := Lib.hid ((B5.out.alloc B5.out.size _).grown hg6.gb (by have := B5.out.size; simp; omega) (fun j hj => (World.ownsRow.lt O5.out j hj).1))
            clear hown6 hg6 z5 z6
            obtain ⟨ta6, tc6, rfl⟩ := ownN_slice O6.out
            have hl6 : (l2.take k ++ [(come, i)]).length = k + 1 := by rw [List.length_append, List.length_take, Nat.min_eq_left (by omega)]; rfl
            have O6B : Hid (w6.ownsRow wq.heap.size 72 2 (.slice ta6 (k + 1) tc6) (k + 1) (nmV (l2.take k ++ [(come, i)]))) := Lib.hid (by have h := O6.out; unfold OwnN at h; rw [hl6] at h; exact h)
            rw [hl6]
            have HL6 := Lib.hid hl6
            clear hl6 O6
            have SR6 : Hid (Src Tryz.prog 2 30 (.slice ya (l2.length - k) yc) (l2.length - k) (nmV (l2.drop k)) w6) := Lib.hid ((CellsC.kept HS2.out (S' := fun _ => True) (fun k hk => ⟨trivial, B6.out.block k hk.2⟩)).src Tryz.underlying30)
            have hwq6 := B6.out.size
            go_wp2_with (at_builtin; refine wpList_own_src _ rfl _ _ 30 30 rfl wq.heap.size 72 i0 (.agg #[.string ByteArray.empty, .int .i64 0]) 2 24 Tryz.underlying30 hi hz0 hz1 hz2 rfl (by decide) _ _ _ rfl O6B.out _ (l2.length - k) _ rfl SR6.out (by unfold maxLen; omega) (by omega) hwq6 ?_)
            intro v7 w7 hown7 hg7
            have O7 : Hid (OwnN w7 wq.heap.size v7 ((l2.take k ++ [(come, i)]) ++ l2.drop k)) := Lib.hid (ownN_more (by rw [HL6.out, List.length_drop]) hown7)
            have B7 : Hid (Below wq.heap.size wq w7) := Lib.hid (B6.out.grown hg7.gb hwq6 (fun j hj => (World.ownsRow.lt O6B.out j hj).1))
            clear hown7 hg7 hr2
            go_wp2_with fail
            go_ret
            refine ⟨_, rfl, ?_, ?_⟩
            · rw [HEQ.out]
              have h := ownN_c O7.out
              rw [List.append_assoc] at h
              exact h.kept (fun k hk => ⟨Or.inr ⟨by have := LQ.out; omega, hk.2⟩, rfl⟩)
            · have h1 := B3.out.size
              have h2 := B4.out.size
              exact B3.out.trans ((B4.out.mono h1).trans ((hWq.out.mono (by omega)).trans (B7.out.mono (by omega))))
  · have hg2 : (gone == []) = false := beq_eq_false_iff_ne.2 hg
    have HWG := Lib.hid (rwout_any S _ l gone _ N2.out (fun k hk => by have := HS.out k hk; have := Z2.out; omega) hl)
    go_wp2_with fail
    clear hb
    generalize w.alloc (.cells #[.string ⟨gone.toArray⟩, .string ⟨come.toArray⟩, .int .i64 fi] 92) = w2 at *
    refine HWG.out.mono ?_
    rintro e w3 ⟨v3, rfl, o3, b3⟩
    obtain ⟨sa, sc, rfl⟩ := ownN_slice o3
    have hs2 : w2.heap.size = w.heap.size + 1 := Z2.out
    have hs3 := b3.size
    have XL : Hid (w.heap.size < w3.heap.size) := Lib.hid (by omega)
    have X3 := Lib.hid ((b3.block _ (by omega)).trans X2.out)
    have B3 : Hid (Below w.heap.size w w3) := Lib.hid (B2.out.trans (b3.mono (by omega)))
    have N3 : Hid (NmC (fun k => S k ∨ (w.heap.size ≤ k ∧ k < w3.heap.size)) w3 (.slice sa (wout l gone).length sc) (wout l gone)) := Lib.hid ((ownN_c o3).kept (fun k hk => ⟨Or.inr ⟨by omega, hk.2⟩, rfl⟩))
    have HLL : Hid ((wout l gone).length ≤ 4194304) := Lib.hid (by have := wout_len l gone; omega)
    obtain ⟨l1, hl1⟩ : ∃ q, wout l gone = q := ⟨_, rfl⟩
    have HL1 := Lib.hid hl1
    rw [hl1] at N3 HLL ⊢
    clear hg2 hg o3 b3 hl1 hs2 hs3 X2 B2 Z2 N2 HWG
    go_upto_region 3 with fail
    have z2 : w3.cell? ⟨w.heap.size, 2, none⟩ = some (.int .i64 fi) := (cell_of_row _ _ _ _ _ _ X3.out).trans rfl
    have z1 : w3.cell? ⟨w.heap.size, 1, none⟩ = some (.string ⟨come.toArray⟩) := (cell_of_row _ _ _ _ _ _ X3.out).trans rfl
    cases file with
    | none =>
      obtain rfl : (-1 : Int) = fi := HFI.out
      clear z1
      go_wp2_with fail
      go_ret
      exact ⟨_, rfl, by show NmC _ _ _ (wout l gone); rw [HL1.out]; exact N3.out, B3.out⟩
    | some i =>
      obtain rfl : (i : Int) = fi := HFI.out
      have y0 : decide ((i : Int) < 0) = false := decide_eq_false (by omega)
      have HWO := Lib.hid (rwout_any _ _ l1 come w3 N3.out (fun k hk => hk.elim (fun h => Nat.lt_of_lt_of_le (HS.out k h) B3.out.size) (fun h => h.2)) (by have := HLL.out; omega))
      go_wp2_with fail
      refine HWO.out.mono ?_
      rintro e w4 ⟨v4, rfl, o4, b4⟩
      clear y0 z1 z2 HWO
      obtain ⟨ta, tc, rfl⟩ := ownN_slice o4
      have X4 : Hid (w4.heap[w.heap.size]? = _) := Lib.hid ((b4.block _ XL.out).trans X3.out)
      have O4 := Lib.hid o4
      have B4 := Lib.hid b4
      have HT : Hid ((wout l1 come).length ≤ 4194304) := Lib.hid (by have h1 := wout_len l1 come; have := HLL.out; omega)
      obtain ⟨l2, hl2⟩ : ∃ q, wout l1 come = q := ⟨_, rfl⟩
      have HL2 := Lib.hid hl2
      rw [hl2] at O4 HT ⊢
      clear o4 b4 hl2
      have z1 : w4.cell? ⟨w.heap.size, 1, none⟩ = some (.string ⟨come.toArray⟩) := (cell_of_row _ _ _ _ _ _ X4.out).trans rfl
      have HIN : Hid (∀ k, k ≤ l2.length → (∀ p ∈ l2.drop k, come < p.1) → (k = 0 ∨ ¬ come < (l2.getD (k - 1) ([], 0)).1) → doA l ⟨gone, come, some i⟩ = l2.take k ++ (come, i) :: l2.drop k) := Lib.hid (fun k h1 h2 h3 => by
        show insD come i (wout (wout l gone) come) = _
        rw [HL1.out, HL2.out]
        exact insD_at (by rw [← HL2.out, ← HL1.out]; exact (HR.out.wout gone).wout come) h1 h2 h3)
      go_wp2_with fail
      go_loopw [5] (fun iv wr => ∃ k : Nat, k ≤ l2.length ∧ iv = .int .i64 (k : Int) ∧ Hid (∀ p ∈ l2.drop k, come < p.1) ∧ Hid (Below w4.heap.size w4 wr)) (fun iv _ => (intOf iv).toNat)
      case atStart => exact ⟨l2.length, Nat.le_refl _, rfl, Lib.hid (by rw [List.drop_length]; intro p hp; cases hp), Lib.hid (Below.refl _ _)⟩
      case round =>
        obtain ⟨k, hk, rfl, hD, hW⟩ := hrel
        have zr : wr.cell? ⟨w.heap.size, 1, none⟩ = some (.string ⟨come.toArray⟩) := (cell_of_row _ _ _ _ _ _ ((hW.out.block _ (by have := XL.out; have := B4.out.size; omega)).trans X4.out)).trans rfl
        clear z1
        by_cases hk0 : k = 0
        · have HEQ := Lib.hid (HIN.out k hk hD.out (Or.inl hk0))
          have yk2 : decide (0 < k) = false := decide_eq_false (by omega)
          have yk : decide ((k : Int) > 0) = false := decide_eq_false (by omega)
          have hk1 : ¬ 0 < k := by omega
          clear hk0
          go_wp2_with fail
          go_quiet (fail)
          go_upto_region 9 with fail
          have hWq : Hid (Below w4.heap.size w4 (wr.drewN nq)) := Lib.hid (hW.out.trans (drewn w4.heap.size wr nq))
          clear zr hW
          generalize wr.drewN nq = wq at *
          have ht := HT.out
          have hwz := hWq.out.size
          have OQ : Hid (OwnN wq w3.heap.size (.slice _ l2.length tc) l2) := Lib.hid (own_below O4.out (fun q _ hq => hWq.out.block q hq))
          obtain ⟨xa, xc, hr1, hs1⟩ := CellsC.cutH (ownN_c OQ.out) und_nms size_nms (hi := k) (by omega)
          obtain ⟨ya, yc, hr2, hs2⟩ := CellsC.cutL (ownN_c OQ.out) und_nms size_nms (lo := k) (by omega)
          rw [nmV_take] at hs1
          rw [nmV_drop] at hs2
          have HS1 := Lib.hid hs1
          have HS2 := Lib.hid hs2
          have XQ : Hid (wq.heap[w.heap.size]? = some (.cells #[.string ⟨gone.toArray⟩, .string ⟨come.toArray⟩, .int .i64 (i : Int)] 92 (0, 0))) := Lib.hid ((hWq.out.block _ (by have := XL.out; have := B4.out.size; omega)).trans X4.out)
          have LQ : Hid (w.heap.size < wq.heap.size) := Lib.hid (by have := XL.out; have := B4.out.size; omega)
          have HO := Lib.hid (ownN_empty wq)
          have SRC : Hid (Src Tryz.prog 2 30 (.slice xa k xc) k (nmV (l2.take k)) (wq.alloc (.cells #[] 72))) := Lib.hid ((CellsC.kept HS1.out (S' := fun _ => True) (fun k hk => ⟨trivial, Below.heap_alloc wq _ k hk.2⟩)).src Tryz.underlying30)
          have BQ := Lib.hid ((Below.refl wq.heap.size wq).alloc (Nat.le_refl _) (.cells #[] 72))
          clear hs1 hs2
          go_upto_region 10 with (at_builtin; refine wpList_own_src _ rfl _ _ 30 30 rfl wq.heap.size 72 i0 (.agg #[.string ByteArray.empty, .int .i64 0]) 2 24 Tryz.underlying30 hi hz0 hz1 hz2 rfl (by decide) _ _ _ rfl HO.out _ k _ rfl SRC.out (by unfold maxLen; simp; omega) (by simp; omega) (by simp) ?_; intro v5 w5 hown5 hg5)
          have O5 : Hid (OwnN w5 wq.heap.size v5 (l2.take k)) := Lib.hid (ownN_more (l := []) (by rw [List.length_take]; simp; omega) hown5)
          have B5 : Hid (Below wq.heap.size wq w5) := Lib.hid (BQ.out.grown hg5.gb (by simp) (fun q hq => Nat.le_of_eq (Option.some.inj hq)))
          clear hown5 hg5 hr1
          obtain ⟨ua, uc, rfl⟩ := ownN_slice O5.out
          have z5 : w5.cell? ⟨w.heap.size, 1, none⟩ = some (.string ⟨come.toArray⟩) := (cell_of_row _ _ _ _ _ _ ((B5.out.block _ LQ.out).trans XQ.out)).trans rfl
          have z6 : w5.cell? ⟨w.heap.size, 2, none⟩ = some (.int .i64 (i : Int)) := (cell_of_row _ _ _ _ _ _ ((B5.out.block _ LQ.out).trans XQ.out)).trans rfl
          go_upto_region 11 with (at_builtin; refine wpList_own_src _ rfl _ _ 30 30 rfl wq.heap.size 72 i0 (.agg #[.string ByteArray.empty, .int .i64 0]) 2 24 Tryz.underlying30 hi hz0 hz1 hz2 rfl (by decide) _ _ _ rfl (World.ownsRow.alloc O5.out _) _ 1 [.string ⟨come.toArray⟩, .int .i64 (i : Int)] rfl (srcN_one _ _ _) (by unfold maxLen; rw [List.length_take]; omega) (by rw [List.length_take]; omega) (by have := B5.out.size; simp; omega) ?_; intro v6 w6 hown6 hg6)
          have O6 : Hid (OwnN w6 wq.heap.size v6 (l2.take k ++ [(come, i)])) := Lib.hid (ownN_push hown6)
          have B6 : Hid (Below wq.heap.size wq w6) := Lib.hid ((B5.out.alloc B5.out.size _).grown hg6.gb (by have := B5.out.size; simp; omega) (fun j hj => (World.ownsRow.lt O5.out j hj).1))
          clear hown6 hg6 z5 z6
          obtain ⟨ta6, tc6, rfl⟩ := ownN_slice O6.out
          have hl6 : (l2.take k ++ [(come, i)]).length = k + 1 := by rw [List.length_append, List.length_take, Nat.min_eq_left (by omega)]; rfl
          have O6B : Hid (w6.ownsRow wq.heap.size 72 2 (.slice ta6 (k + 1) tc6) (k + 1) (nmV (l2.take k ++ [(come, i)]))) := Lib.hid (by have h := O6.out; unfold OwnN at h; rw [hl6] at h; exact h)
          rw [hl6]
          have HL6 := Lib.hid hl6
          clear hl6 O6
          have SR6 : Hid (Src Tryz.prog 2 30 (.slice ya (l2.length - k) yc) (l2.length - k) (nmV (l2.drop k)) w6) := Lib.hid ((CellsC.kept HS2.out (S' := fun _ => True) (fun k hk => ⟨trivial, B6.out.block k hk.2⟩)).src Tryz.underlying30)
          have hwq6 := B6.out.size
          go_wp2_with (at_builtin; refine wpList_own_src _ rfl _ _ 30 30 rfl wq.heap.size 72 i0 (.agg #[.string ByteArray.empty, .int .i64 0]) 2 24 Tryz.underlying30 hi hz0 hz1 hz2 rfl (by decide) _ _ _ rfl O6B.out _ (l2.length - k) _ rfl SR6.out (by unfold maxLen; omega) (by omega) hwq6 ?_)
          intro v7 w7 hown7 hg7
          have O7 : Hid (OwnN w7 wq.heap.size v7 ((l2.take k ++ [(come, i)]) ++ l2.drop k)) := Lib.hid (ownN_more (by rw [HL6.out, List.length_drop]) hown7)
          have B7 : Hid (Below wq.heap.size wq w7) := Lib.hid (B6.out.grown hg7.gb hwq6 (fun j hj => (World.ownsRow.lt O6B.out j hj).1))
          clear hown7 hg7 hr2
          go_wp2_with fail
          go_ret
          refine ⟨_, rfl, ?_, ?_⟩
          · rw [HEQ.out]
            have h := ownN_c O7.out
            rw [List.append_assoc] at h
            exact h.kept (fun k hk => ⟨Or.inr ⟨by have := LQ.out; omega, hk.2⟩, rfl⟩)
          · have h1 := B3.out.size
            have h2 := B4.out.size
            exact B3.out.trans ((B4.out.mono h1).trans ((hWq.out.mono (by omega)).trans (B7.out.mono (by omega))))
        · obtain ⟨m, hm⟩ : ∃ m : Nat, (k : Int) - 1 = (m : Int) := ⟨k - 1, by omega⟩
          have hml : m < l2.length := by omega
          have HM : Hid (k = m + 1) := Lib.hid (by omega)
          have yk : decide ((k : Int) > 0) = true := decide_eq_true (by omega)
          have yk2 : decide (0 < k) = true := decide_eq_true (by omega)
          have yk3 : 0 < k := by omega
          have hwk : IntKind.i64.wrap ((k : Int) - 1) = (m : Int) := by rw [hm]; exact IntWalk.i64_in _ (by have := HT.out; omega)
          obtain ⟨g1, o1, rfl, hSg, _, _, hat⟩ := CellsC.at (ownN_c O4.out) (by omega)
          have hc := nmV_at hml
          have c0 : wr.cell? ⟨g1, o1 + m * 2, none⟩ = some (.string ⟨(l2.getD m ([], 0)).1.toArray⟩) := (hW.out.cell (p := ⟨g1, o1 + m * 2, none⟩) hSg.2).trans (hat _ _ hc.1)
          clear hat hc hSg
          obtain ⟨q, hq⟩ : ∃ q, (l2.getD m ([], 0)).1 = q := ⟨_, rfl⟩
          rw [hq] at c0
          have HQ := Lib.hid hq
          clear hq
          by_cases hlt : come < q
          · have yl : Op.bytesLess come q = true := by rw [less_iff]; exact decide_eq_true hlt
            go_wp2_with fail
            go_quiet (fail)
            go_wp2_with fail
            exact ⟨⟨m, by omega, by go_num, Lib.hid (drop_step hml (by have h := hD.out; rw [HM.out] at h; exact h) (by rw [HQ.out]; exact hlt)), Lib.hid (hW.out.trans (drewn w4.heap.size wr nq))⟩, by simp [intOf]; omega⟩
          · go_wp2_with fail
            have yl : Op.bytesLess come q = false := by rw [less_iff]; exact decide_eq_false hlt
            have HEQ := Lib.hid (HIN.out k hk hD.out (Or.inr (by rw [show k - 1 = m by have := HM.out; omega, HQ.out]; exact hlt)))
            go_quiet (fail)
            go_upto_region 9 with fail
            have hWq : Hid (Below w4.heap.size w4 (wr.drewN nq)) := Lib.hid (hW.out.trans (drewn w4.heap.size wr nq))
            clear zr hW
            generalize wr.drewN nq = wq at *
            have ht := HT.out
            have hwz := hWq.out.size
            have OQ : Hid (OwnN wq w3.heap.size (.slice _ l2.length tc) l2) := Lib.hid (own_below O4.out (fun q _ hq => hWq.out.block q hq))
            obtain ⟨xa, xc, hr1, hs1⟩ := CellsC.cutH (ownN_c OQ.out) und_nms size_nms (hi := k) (by omega)
            obtain ⟨ya, yc, hr2, hs2⟩ := CellsC.cutL (ownN_c OQ.out) und_nms size_nms (lo := k) (by omega)
            rw [nmV_take] at hs1
            rw [nmV_drop] at hs2
            have HS1 := Lib.hid hs1
            have HS2 := Lib.hid hs2
            have XQ : Hid (wq.heap[w.heap.size]? = some (.cells #[.string ⟨gone.toArray⟩, .string ⟨come.toArray⟩, .int .i64 (i : Int)] 92 (0, 0))) := Lib.hid ((hWq.out.block _ (by have := XL.out; have := B4.out.size; omega)).trans X4.out)
            have LQ : Hid (w.heap.size < wq.heap.size) := Lib.hid (by have := XL.out; have := B4.out.size; omega)
            have HO := Lib.hid (ownN_empty wq)
            have SRC : Hid (Src Tryz.prog 2 30 (.slice xa k xc) k (nmV (l2.take k)) (wq.alloc (.cells #[] 72))) := Lib.hid ((CellsC.kept HS1.out (S' := fun _ => True) (fun k hk => ⟨trivial, Below.heap_alloc wq _ k hk.2⟩)).src Tryz.underlying30)
            have BQ := Lib.hid ((Below.refl wq.heap.size wq).alloc (Nat.le_refl _) (.cells #[] 72))
            clear hs1 hs2
            go_upto_region 10 with (at_builtin; refine wpList_own_src _ rfl _ _ 30 30 rfl wq.heap.size 72 i0 (.agg #[.string ByteArray.empty, .int .i64 0]) 2 24 Tryz.underlying30 hi hz0 hz1 hz2 rfl (by decide) _ _ _ rfl HO.out _ k _ rfl SRC.out (by unfold maxLen; simp; omega) (by simp; omega) (by simp) ?_; intro v5 w5 hown5 hg5)
            have O5 : Hid (OwnN w5 wq.heap.size v5 (l2.take k)) := Lib.hid (ownN_more (l := []) (by rw [List.length_take]; simp; omega) hown5)
            have B5 : Hid (Below wq.heap.size wq w5) := Lib.hid (BQ.out.grown hg5.gb (by simp) (fun q hq => Nat.le_of_eq (Option.some.inj hq)))
            clear hown5 hg5 hr1
            obtain ⟨ua, uc, rfl⟩ := ownN_slice O5.out
            have z5 : w5.cell? ⟨w.heap.size, 1, none⟩ = some (.string ⟨come.toArray⟩) := (cell_of_row _ _ _ _ _ _ ((B5.out.block _ LQ.out).trans XQ.out)).trans rfl
            have z6 : w5.cell? ⟨w.heap.size, 2, none⟩ = some (.int .i64 (i : Int)) := (cell_of_row _ _ _ _ _ _ ((B5.out.block _ LQ.out).trans XQ.out)).trans rfl
            go_upto_region 11 with (at_builtin; refine wpList_own_src _ rfl _ _ 30 30 rfl wq.heap.size 72 i0 (.agg #[.string ByteArray.empty, .int .i64 0]) 2 24 Tryz.underlying30 hi hz0 hz1 hz2 rfl (by decide) _ _ _ rfl (World.ownsRow.alloc O5.out _) _ 1 [.string ⟨come.toArray⟩, .int .i64 (i : Int)] rfl (srcN_one _ _ _) (by unfold maxLen; rw [List.length_take]; omega) (by rw [List.length_take]; omega) (by have := B5.out.size; simp; omega) ?_; intro v6 w6 hown6 hg6)
            have O6 : Hid (OwnN w6 wq.heap.size v6 (l2.take k ++ [(come, i)])) := Lib.hid (ownN_push hown6)
            have B6 : Hid (Below wq.heap.size wq w6) := Lib.hid ((B5.out.alloc B5.out.size _).grown hg6.gb (by have := B5.out.size; simp; omega) (fun j hj => (World.ownsRow.lt O5.out j hj).1))
            clear hown6 hg6 z5 z6
            obtain ⟨ta6, tc6, rfl⟩ := ownN_slice O6.out
            have hl6 : (l2.take k ++ [(come, i)]).length = k + 1 := by rw [List.length_append, List.length_take, Nat.min_eq_left (by omega)]; rfl
            have O6B : Hid (w6.ownsRow wq.heap.size 72 2 (.slice ta6 (k + 1) tc6) (k + 1) (nmV (l2.take k ++ [(come, i)]))) := Lib.hid (by have h := O6.out; unfold OwnN at h; rw [hl6] at h; exact h)
            rw [hl6]
            have HL6 := Lib.hid hl6
            clear hl6 O6
            have SR6 : Hid (Src Tryz.prog 2 30 (.slice ya (l2.length - k) yc) (l2.length - k) (nmV (l2.drop k)) w6) := Lib.hid ((CellsC.kept HS2.out (S' := fun _ => True) (fun k hk => ⟨trivial, B6.out.block k hk.2⟩)).src Tryz.underlying30)
            have hwq6 := B6.out.size
            go_wp2_with (at_builtin; refine wpList_own_src _ rfl _ _ 30 30 rfl wq.heap.size 72 i0 (.agg #[.string ByteArray.empty, .int .i64 0]) 2 24 Tryz.underlying30 hi hz0 hz1 hz2 rfl (by decide) _ _ _ rfl O6B.out _ (l2.length - k) _ rfl SR6.out (by unfold maxLen; omega) (by omega) hwq6 ?_)
            intro v7 w7 hown7 hg7
            have O7 : Hid (OwnN w7 wq.heap.size v7 ((l2.take k ++ [(come, i)]) ++ l2.drop k)) := Lib.hid (ownN_more (by rw [HL6.out, List.length_drop]) hown7)
            have B7 : Hid (Below wq.heap.size wq w7) := Lib.hid (B6.out.grown hg7.gb hwq6 (fun j hj => (World.ownsRow.lt O6B.out j hj).1))
            clear hown7 hg7 hr2
            go_wp2_with fail
            go_ret
            refine ⟨_, rfl, ?_, ?_⟩
            · rw [HEQ.out]
              have h := ownN_c O7.out
              rw [List.append_assoc] at h
              exact h.kept (fun k hk => ⟨Or.inr ⟨by have := LQ.out; omega, hk.2⟩, rfl⟩)
            · have h1 := B3.out.size
              have h2 := B4.out.size
              exact B3.out.trans ((B4.out.mono h1).trans ((hWq.out.mono (by omega)).trans (B7.out.mono (by omega))))
end Go.Proofs.YtjefcalndfcmdaaGreatDoor
