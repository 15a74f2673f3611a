/- The walk of Scan's tell. -/
import Derived.Test.YtgknihcpmpfocaaDoorPkF
import Derived.Deep.RegionLaw
namespace Go.Proofs.YtgknihcpmpfocaaDoor
open Go.RowKit
attribute [local simp high] id_size id_zero
set_option maxRecDepth 100000 in
set_option maxHeartbeats 4000000 in
theorem tell_scan (B bc bb : Nat) (S : Nat → Prop) (v : Value) (b : List UInt8) (hbl : b.length ≤ 1073741824) (done : List (List UInt8)) (T : Nat → Prop) (W : World) (rec : List UInt8) (todo : List (List UInt8)) (hdt : scanL b = done ++ rec :: todo) (hJ : ScJ B bc bb v done T W) (hbb : BytesC S W v b) (hS : ∀ k, S k → k < W.heap.size) (hBW : B ≤ W.heap.size) :
    Calls Tryd.prog 27 (atV rec done ++ #[.pointer (some ⟨bc, 0, none⟩), .pointer (some ⟨bb, 0, none⟩)]) W fun e W' => e = .returned (.tuple #[]) ∧ ∃ T', (∀ k, T' k → (T k ∨ W.heap.size ≤ k) ∧ k < W'.heap.size) ∧ ScJ B bc bb v (done ++ [rec]) T' W' ∧ Far T W W' := by
  obtain ⟨vr, vs, R, hA, hTl⟩ := hJ
  obtain ⟨i0, hi, hz0, hz1, hz2⟩ := info_parts Tryd.info22
  obtain ⟨hsr, hsl⟩ := scan_rest hdt
  obtain ⟨e, he⟩ : ∃ e, e = (framesL done).length := ⟨_, rfl⟩
  have hfirst : ∃ k, firstN (b.drop e) = some k ∧ rec = ((b.drop e).drop 12).take k := by
    rw [← he] at hsr
    cases hf : firstN (b.drop e) with
    | none => rw [scanL_none hf] at hsr; cases hsr
    | some k => rw [scanL_some hf] at hsr; injection hsr with h1 _; exact ⟨k, rfl, h1.symm⟩
  obtain ⟨k, hf, hrec⟩ := hfirst
  have hfs := firstN_some hf
  rw [List.length_drop] at hfs
  have hrl : rec.length = k := by rw [hrec, List.length_take, List.length_drop, List.length_drop]; omega
  rw [← he] at hsl
  have hdl : done.length ≤ 1073741824 := by have := framesL_ge done; omega
  obtain ⟨aa, ca, rfl⟩ : ∃ aa ca, v = .slice (some aa) b.length ca := by
    rcases hbb with ⟨_, h2⟩ | ⟨a, c, h1, _⟩
    · rw [h2] at hfs; simp at hfs
    · exact ⟨a, c, h1⟩
  obtain ⟨a', c', hrun, hsub⟩ := sub_run hbb (e + 12) (e + 12 + k) (by omega) (by omega)
  have hsubl : (b.drop (e + 12)).take (e + 12 + k - (e + 12)) = rec := by
    rw [hrec, List.drop_drop, show e + 12 + k - (e + 12) = k by omega]
  rw [hsubl] at hsub
  have hln : e + 12 + k - (e + 12) = k := by omega
  rw [hln] at hrun hsub
  have HAT : atV rec done = #[.agg (bv (sumN rec)).toArray, .agg #[.int .i64 ((e + 12 : Nat) : Int), .int .i64 ((e + 12 + k : Nat) : Int)]] := by
    unfold atV; rw [← he, hrl]
  rw [HAT]
  obtain ⟨X, hX⟩ : ∃ X, X = sumN rec := ⟨_, rfl⟩
  have hX32 : X.length = 32 := by rw [hX]; exact sumN_len _
  rw [← hX]
  obtain ⟨f1, hf1⟩ : ∃ f1, f1 = e + 12 := ⟨_, rfl⟩
  obtain ⟨f2, hf2⟩ : ∃ f2, f2 = f1 + k := ⟨_, rfl⟩
  rw [← hf1, ← hf2] at hrun ⊢
  have hbcl : bc < W.heap.size := hTl bc hA.tc
  have hbbl : bb < W.heap.size := hTl bb hA.tb
  have hal := fun q (hq : q < W.heap.size) => (Below.heap_alloc (W.alloc (.cells (bv X).toArray 44)) (.cells #[.int .i64 (f1 : Int), .int .i64 (f2 : Int)] 62) q (by simp; omega)).trans (Below.heap_alloc W (.cells (bv X).toArray 44) q hq)
  have hnew := new_five (W.alloc (.cells (bv X).toArray 44)) #[.int .i64 (f1 : Int), .int .i64 (f2 : Int)] 62
  have hsz : ((W.alloc (.cells (bv X).toArray 44)).alloc (.cells #[.int .i64 (f1 : Int), .int .i64 (f2 : Int)] 62)).heap.size = W.heap.size + 2 := by simp
  have HB2 : Hid (Below W.heap.size W ((W.alloc (.cells (bv X).toArray 44)).alloc (.cells #[.int .i64 (f1 : Int), .int .i64 (f2 : Int)] 62))) := Lib.hid (((Below.refl W.heap.size W).alloc (Nat.le_refl _) _).alloc (by simp) _)
  rw [World.size_alloc] at hnew
  have zx : (bv X).length = n32 := by rw [bv_len, hX32]; rfl
  have HA := Lib.hid hA
  have HTL := Lib.hid hTl
  have HS := Lib.hid hS
  have HSUB := Lib.hid hsub
  have HRL := Lib.hid hrl
  have HKL : Hid (k ≤ 524288) := Lib.hid hfs.2.1
  clear hA hTl hS hsub hrl hfs HAT hX hf1 hf2 hln hsubl hrec hf hsr hsl hdt hbb he
  go_enter Tryd.func27, Tryd.ntmps27
  go_upto_region 1 with fail
  generalize (W.alloc (.cells (bv X).toArray 44)).alloc (.cells #[.int .i64 (f1 : Int), .int .i64 (f2 : Int)] 62) = w2 at *
  have e1 : w2.drew.cell? ⟨bc, 0, none⟩ = some vr := (cell_of_row w2.drew bc _ _ _ _ ((hal bc hbcl).trans HA.out.cell)).trans rfl
  have e2 : w2.drew.cell? ⟨bb, 0, none⟩ = some (.slice (some aa) b.length ca) := (cell_of_row w2.drew bb _ _ _ _ ((hal bb hbbl).trans HA.out.arg)).trans rfl
  have e3 : w2.drew.cell? ⟨W.heap.size + 1, 0, none⟩ = some (.int .i64 (f1 : Int)) := (cell_of_row w2.drew _ _ _ _ _ hnew).trans rfl
  have e4 : w2.drew.cell? ⟨W.heap.size + 1, 1, none⟩ = some (.int .i64 (f2 : Int)) := (cell_of_row w2.drew _ _ _ _ _ hnew).trans rfl
  have HSB2 : Hid (∀ W', Below w2.heap.size w2 W' → BytesC S W' (.slice (some a') k c') rec) := Lib.hid (fun W' hb => HSUB.out.kept (fun q hq => ⟨hq, (hb.block q (by have := HS.out q hq; omega)).trans (hal q (HS.out q hq))⟩))
  have HCL : Hid (Calls Tryd.prog 28 #[.slice (some a') k c'] w2.drew fun e w' => ∃ a4 n4 c4, e = .returned (.slice a4 n4 c4) ∧ Hid (Own w' w2.heap.size (.slice a4 n4 c4) rec ∧ Below w2.heap.size w2 w') ∧ Hid (∀ o, (w'.alloc o).ownsRow B 22 1 vr done.length vs) ∧ (∀ o, (w'.alloc o).cell? ⟨bc, 0, none⟩ = some vr) ∧ w'.cell? ⟨bc, 0, none⟩ = some vr ∧ w'.cell? ⟨bb, 0, none⟩ = some (.slice (some aa) b.length ca) ∧ (∀ o, (w'.alloc o).cell? ⟨bb, 0, none⟩ = some (.slice (some aa) b.length ca)) ∧ w'.cell? ⟨W.heap.size + 1, 0, none⟩ = some (.int .i64 (f1 : Int)) ∧ w'.cell? ⟨W.heap.size + 1, 1, none⟩ = some (.int .i64 (f2 : Int))) := Lib.hid (by
    have hd : Below w2.heap.size w2 w2.drew := ⟨rfl, rfl, rfl, Nat.le_refl _, fun _ _ => rfl⟩
    refine (clone_any S _ rec w2.drew (by have := HKL.out; have := HRL.out; omega) (fun q hq => by have := HS.out q hq; show q < w2.heap.size; omega) (HSB2.out w2.drew hd)).mono ?_
    rintro e w' ⟨v', rfl, hown, hb⟩
    obtain ⟨a4, c4, rfl⟩ := own_slice hown
    have hb2 : Below w2.heap.size w2 w' := hd.trans hb
    have hz' := hb2.size
    have hk : ∀ q, q < w2.heap.size → w'.heap[q]? = w2.heap[q]? := fun q hq => hb2.block q hq
    have hko : ∀ q, q < w2.heap.size → ∀ o, (w'.alloc o).heap[q]? = w2.heap[q]? := fun q hq o => (Below.heap_alloc w' o q (by omega)).trans (hk q hq)
    have g1 := (hal bc hbcl).trans HA.out.cell
    have g2 := (hal bb hbbl).trans HA.out.arg
    refine ⟨a4, _, c4, rfl, Lib.hid ⟨hown, hb2⟩, Lib.hid (fun o => ?_), fun o => ?_, ?_, ?_, fun o => ?_, ?_, ?_⟩
    · refine ⟨HA.out.row.1, ?_⟩
      rcases HA.out.row.2 with h2 | ⟨g, cap, cur, x1, x2, x3, x4⟩
      · exact Or.inl h2
      · have hg := HTL.out g (HA.out.tow g (by rw [x1]; rfl)).1
        exact Or.inr ⟨g, cap, cur, x1, x2, ((hko g (by omega) o).trans (hal g hg)).trans x3, x4⟩
    · exact (cell_of_row _ bc _ _ _ _ ((hko bc (by omega) o).trans g1)).trans rfl
    · exact (cell_of_row _ bc _ _ _ _ ((hk bc (by omega)).trans g1)).trans rfl
    · exact (cell_of_row _ bb _ _ _ _ ((hk bb (by omega)).trans g2)).trans rfl
    · exact (cell_of_row _ bb _ _ _ _ ((hko bb (by omega) o).trans g2)).trans rfl
    · exact (cell_of_row _ _ _ _ _ _ ((hk _ (by omega)).trans hnew)).trans rfl
    · exact (cell_of_row _ _ _ _ _ _ ((hk _ (by omega)).trans hnew)).trans rfl)
  have HK5 : Hid (∀ (w4 : World) (o : Obj) (w5 : World) (v5 u : Value), Hid (Own w4 w2.heap.size u rec ∧ Below w2.heap.size w2 w4) → Grew (w4.alloc o) w5 vr v5 → w5.cell? ⟨bc, 0, none⟩ = some vr ∧ w5.frozen? ⟨bc, 0, none⟩ = false) := Lib.hid (fun w4 o w5 v5 u hc hg => by
    have hz4 := hc.out.2.size
    have hne : vr.ownBlock ≠ some bc := fun e => (HA.out.tow bc e).2.1 rfl
    have h5 : w5.heap[bc]? = some (.cells #[vr] 24 (0, 0)) := (hg.gb.block bc (by simp; omega) (fun e => hne e.symm)).trans ((Below.heap_alloc w4 o bc (by omega)).trans ((hc.out.2.block bc (by omega)).trans ((hal bc hbcl).trans HA.out.cell)))
    exact ⟨(cell_of_row _ bc _ _ _ _ h5).trans rfl, by unfold World.frozen?; rw [h5]; simp⟩)
  go_region_law
    (first
      | (go_simp; go_at_call 28; refine HCL.out.mono ?_; rintro e w4 ⟨a4, n4, c4, rfl, HC4, HR4, k1, k2, k3, k4, k5, k6⟩)
      | (refine step_own_src _ (by rfl) _ _ 24 24 (by rfl) B 22 i0 (.slice none 0 0) 1 24 Tryd.underlying24 hi hz0 hz1 hz2 rfl (by decide) _ _ _ (by rfl) (HR4.out _) _ 1 [.slice a4 n4 c4] (by rfl) (srcV_one _ _ rfl) (by unfold maxLen; omega) (by omega) (by have := HC4.out.2.size; simp; omega) ?_; intro v5 w5 hown5 hg5; obtain ⟨a5, cc5, rfl⟩ := row_shape_any hown5; obtain ⟨s1, s2⟩ := HK5.out _ _ _ _ _ HC4 hg5))
  all_goals
    go_end0
    exact ⟨rfl, sc_push HA.out HTL.out hal hsz HB2.out HC4.out.1 HC4.out.2 hown5 hg5⟩
end Go.Proofs.YtgknihcpmpfocaaDoor
