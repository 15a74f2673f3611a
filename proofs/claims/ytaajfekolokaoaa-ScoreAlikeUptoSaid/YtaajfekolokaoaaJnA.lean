/- Rows of cells by a function of the place: arrays and records in memory, their sizes shut. -/
import Derived.Test.YtaajfekolokaoaaStAll
import Derived.Test.YtaajfekolokaoaaPathAll
import Derived.Test.YtaajfekolokaoaaRecs
import Derived.Laws.CopyOwn
import Derived.Deep.DeepCutAuto
namespace Go.Proofs.Ytaajfekolokaoaa
open Go.RowKit Go.Lib
/-- The cells by their places. -/
def rowL (n : Nat) (F : Nat → Value) : List Value := (List.range n).map F
theorem rowL_len (n : Nat) (F : Nat → Value) : (rowL n F).length = n := by unfold rowL; simp
theorem rowL_at {n k : Nat} (F : Nat → Value) (h : k < n) : (rowL n F)[k]? = some (F k) := by
  unfold rowL; rw [List.getElem?_map, List.getElem?_range h]; rfl
theorem rowL_ext {n : Nat} {F : Nat → Value} {l : List Value} (hl : l.length = n) (h : ∀ k, k < n → l[k]? = some (F k)) : l = rowL n F := by
  apply List.ext_getElem?
  intro k
  by_cases hk : k < n
  · rw [h k hk, rowL_at F hk]
  · rw [List.getElem?_eq_none (by omega), List.getElem?_eq_none (by rw [rowL_len]; omega)]
theorem rowL_congr {n : Nat} {F G : Nat → Value} (h : ∀ k, k < n → F k = G k) : rowL n F = rowL n G := by
  unfold rowL; exact List.map_congr_left fun k hk => h k (List.mem_range.1 hk)
/-- Values that stand in one cell each. -/
def OneC (n : Nat) (F : Nat → Value) : Prop := ∀ k, k < n → (F k).oneCell' = true
theorem rowL_one {n : Nat} {F : Nat → Value} (h : OneC n F) : ∀ u ∈ rowL n F, u.oneCell' = true := by
  intro u hu
  unfold rowL at hu
  obtain ⟨k, hk, rfl⟩ := List.mem_map.1 hu
  exact h k (List.mem_range.1 hk)
/-- Block b holds n cells by this function, as a value of type t. -/
structure RF (w : World) (b : Nat) (t : TypeId) (n : Nat) (F : Nat → Value) : Prop where
  blk : w.heap[b]? = some (.cells (rowL n F).toArray t (0, 0))
section
variable {w w' : World} {b n : Nat} {t : TypeId} {F G : Nat → Value}
theorem RF.new (w : World) (t : TypeId) (n : Nat) (F : Nat → Value) : RF (w.alloc (.cells (rowL n F).toArray t)) w.heap.size t n F := ⟨new_five w _ _⟩
theorem RF.kept (h : RF w b t n F) (hk : w'.heap[b]? = w.heap[b]?) : RF w' b t n F := ⟨hk.trans h.blk⟩
theorem RF.lt (h : RF w b t n F) : b < w.heap.size := (Array.getElem?_eq_some_iff.1 h.blk).1
theorem RF.congr (h : RF w b t n F) (hg : ∀ k, k < n → F k = G k) : RF w b t n G := ⟨by rw [← rowL_congr hg]; exact h.blk⟩
theorem RF.cell (h : RF w b t n F) {k : Nat} (hk : k < n) : w.cell? ⟨b, k, none⟩ = some (F k) := by
  rw [cell_of_row _ _ _ _ _ _ h.blk]; simpa using rowL_at F hk
theorem RF.free (h : RF w b t n F) (k : Nat) : w.frozen? ⟨b, k, none⟩ = false := by unfold World.frozen?; rw [h.blk]; simp
theorem RF.set (h : RF w b t n F) {k : Nat} (_ : k < n) (v : Value) : RF (w.setCell ⟨b, k, none⟩ v) b t n (fun j => if j = k then v else F j) := by
  refine ⟨?_⟩
  rw [heap_setCell_same w b k _ _ _ h.blk]
  congr 2
  rw [show ((rowL n F).toArray.setIfInBounds k v) = ((rowL n F).set k v).toArray by simp]
  congr 1
  refine rowL_ext (by rw [List.length_set, rowL_len]) (fun j hj => ?_)
  rw [List.getElem?_set, rowL_len]
  by_cases e : k = j
  · subst e; rw [if_pos rfl, if_pos hj, if_pos rfl]
  · rw [if_neg e, rowL_at F hj, if_neg (fun x => e x.symm)]
/-- Some of the cells, loaded. -/
theorem RF.load (h : RF w b t n F) {o m : Nat} (hm : o + m ≤ n) : (loadCellsFrom ⟨b, o, none⟩ 0 m #[]).run Try.prog w = .ok (rowL m (fun j => F (o + j))).toArray w := by
  have := run_loadCells_list (P := Try.prog) w ⟨b, o, none⟩ (rowL m (fun j => F (o + j))) (fun j v hv => by
    have hj : j < m := by
      have := (List.getElem?_eq_some_iff.1 hv).1
      rw [rowL_len] at this; exact this
    rw [rowL_at _ hj] at hv
    rw [Addr.add_mid, ← hv]
    exact h.cell (by omega))
  rw [rowL_len] at this
  simpa [loadCells] using this
/-- Some of the cells, stored. -/
theorem RF.store (h : RF w b t n F) {o m : Nat} (hm : o + m ≤ n) (h1 : OneC m G) : ∃ w', (storeCells ⟨b, o, none⟩ (rowL m G)).run Try.prog w = .ok () w' ∧ RF w' b t n (fun j => if o ≤ j ∧ j < o + m then G (j - o) else F j) ∧ (∀ B w0, Below B w0 w → B ≤ b → Below B w0 w') ∧ (∀ q, q ≠ b → w'.heap[q]? = w.heap[q]?) ∧ w'.heap.size = w.heap.size := by
  have hs := run_storeCells_at (P := Try.prog) b o t (rowL m G) 0 (rowL n F).toArray w h.blk (by rw [rowL_len, List.size_toArray, rowL_len]; omega) (rowL_one h1)
  refine ⟨_, hs, ⟨?_⟩, fun B w0 hB hb => below_setRow hB hb _, fun q hq => setRow_other _ _ _ _ hq, by simp [World.setRow]⟩
  rw [setRow_heap w b _ _ _ _ h.blk]
  congr 3
  rw [rowL_len, Nat.add_zero]
  show (rowL n F).take o ++ rowL m G ++ (rowL n F).drop (o + m) = _
  refine rowL_ext ?_ (fun k hk => ?_)
  · rw [List.length_append, List.length_append, List.length_take, List.length_drop, rowL_len, rowL_len]; omega
  · have e1 : ((rowL n F).take o).length = o := by rw [List.length_take, rowL_len]; omega
    by_cases h1 : k < o
    · rw [List.append_assoc, List.getElem?_append_left (by omega), List.getElem?_take, if_pos h1, rowL_at F hk, if_neg (by omega)]
    · by_cases h2 : k < o + m
      · rw [List.append_assoc, List.getElem?_append_right (by omega), e1, List.getElem?_append_left (by rw [rowL_len]; omega), rowL_at G (by omega), if_pos ⟨by omega, h2⟩]
      · rw [List.getElem?_append_right (by rw [List.length_append, rowL_len]; omega), List.length_append, e1, rowL_len, List.getElem?_drop, show o + m + (k - (o + m)) = k by omega, rowL_at F hk, if_neg (by omega)]
end
end Go.Proofs.Ytaajfekolokaoaa
