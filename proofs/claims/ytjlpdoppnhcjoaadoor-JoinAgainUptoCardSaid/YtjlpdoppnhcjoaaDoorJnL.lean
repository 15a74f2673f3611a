/- The law's shelf. -/
import Derived.Test.YtjlpdoppnhcjoaaDoorJnK
namespace Go.Proofs.YtjlpdoppnhcjoaaDoor
open Go.RowKit Go.Lib
attribute [local simp high] id_size n32_ne n34_ne blob_size
theorem textOf_len (f : Nat → UInt8) : ∀ (l : List BlobN), (∀ b ∈ l, b.text.length ≤ 1048576) → (textOf f l).1.length ≤ 1048576
  | [], _ => by show ([] : List UInt8).length ≤ _; simp
  | b :: l, h => by
    unfold textOf
    split
    · split
      · show ([] : List UInt8).length ≤ _; simp
      · exact h b List.mem_cons_self
    · exact textOf_len f l (fun x hx => h x (List.mem_cons_of_mem _ hx))
set_option maxRecDepth 100000 in
set_option maxHeartbeats 4000000 in
theorem shelf_any (S : Nat → Prop) (v : Value) (l : List BlobN) (f : Nat → UInt8) (w : World) (hS : ∀ k, S k → k < w.heap.size) (hv : BlobsC S w v l) (hl : l.length ≤ 4194304) (ht : ∀ b ∈ l, b.text.length ≤ 1048576) :
    Calls Tryd.prog 115 #[.agg #[v], .agg (bv (idL f)).toArray] w fun e w' => ∃ b, e = .returned (.tuple #[b, .int .i64 (textOf f l).2]) ∧ BytesC (fun k => w.heap.size ≤ k ∧ k < w'.heap.size) w' b (textOf f l).1 ∧ Below w.heap.size w w' := by
  obtain ⟨la, lc, rfl⟩ := RowsC.shape hv
  have hk1 := new_five w #[.slice la l.length lc] 33
  have hk2 := new_five (w.alloc (.cells #[.slice la l.length lc] 33)) (bv (idL f)).toArray 36
  rw [show (w.alloc (.cells #[.slice la l.length lc] 33)).heap.size = w.heap.size + 1 by simp] at hk2
  have c0 : ((w.alloc (.cells #[.slice la l.length lc] 33)).alloc (.cells (bv (idL f)).toArray 36)).cell? ⟨w.heap.size, 0, none⟩ = some (.slice la l.length lc) := by
    rw [cell_of_row _ _ _ _ _ _ ((Below.heap_alloc _ _ _ (by simp)).trans hk1)]; rfl
  have hrf : RF ((w.alloc (.cells #[.slice la l.length lc] 33)).alloc (.cells (bv (idL f)).toArray 36)) (w.heap.size + 1) 36 n32 (idF f) := ⟨by rw [idL_row]; exact hk2⟩
  have l0 := load_row _ (w.heap.size + 1) 0 n32 (idF f) (fun j hj => by rw [Nat.zero_add]; exact hrf.cell hj)
  rw [idL_row] at l0
  have HB0 := Lib.hid (((Below.refl w.heap.size w).alloc (Nat.le_refl _) (.cells #[.slice la l.length lc] 33)).alloc (by simp) (.cells (bv (idL f)).toArray 36))
  have HT := Lib.hid (rtext13_any S (.slice la l.length lc) l f _ (fun k hk => Nat.lt_of_lt_of_le (hS k hk) HB0.out.size) (RowsC.kept blob_keeps hv (S' := S) (fun k hk => ⟨hk, HB0.out.block k (hS k hk)⟩)) hl)
  have HTL : Hid ((textOf f l).1.length ≤ 1048576) := Lib.hid (textOf_len f l ht)
  clear hk1 hk2 hrf hv hS ht
  go_enter Tryd.func115, Tryd.ntmps115
  go_upto_region 1 with fail
  generalize (w.alloc (.cells #[.slice la l.length lc] 33)).alloc (.cells (bv (idL f)).toArray 36) = w1 at *
  go_wp2_with fail
  refine HT.out.mono ?_
  rintro e w2 ⟨rfl, hb2⟩
  have HB2 : Hid (Below w.heap.size w w2) := Lib.hid (HB0.out.trans (hb2.mono HB0.out.size))
  obtain ⟨cap, w3, hcv, hrest⟩ := conv_new w2 (textOf f l).1 HTL.out
  have HC := Lib.hid hrest
  clear c0 l0 hb2 hrest HT
  go_wp2_with fail
  go_ret2
  refine ⟨_, rfl, BytesC.kept HC.out.1 (fun k hk => ⟨⟨Nat.le_trans HB2.out.size hk.1, hk.2⟩, rfl⟩), HB2.out.trans (HC.out.2.1.mono HB2.out.size)⟩
end Go.Proofs.YtjlpdoppnhcjoaaDoor
