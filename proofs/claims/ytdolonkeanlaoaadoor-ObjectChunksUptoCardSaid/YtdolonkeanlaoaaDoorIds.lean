/- Rows of ids of one's own. -/
import Derived.Test.YtdolonkeanlaoaaDoorShaAF
import Derived.Test.YtdolonkeanlaoaaDoorRecs
import Derived.Laws.CopyOwn
namespace Go.Proofs.YtdolonkeanlaoaaDoor
open Go.RowKit
theorem row_shape_any {w : World} {B : Nat} {e : TypeId} {size : Nat} {v : Value} {n : Nat} {xs : List Value} (h : w.ownsRow B e size v n xs) : ∃ a c, v = .slice a n c := by
  rcases h.2 with ⟨h1, h2⟩ | ⟨g, cap, cur, h1, _⟩
  · exact ⟨none, 0, by rw [h1, h2]⟩
  · exact ⟨_, _, h1⟩
theorem row_kept {w w' : World} {B e sz n : Nat} {v : Value} {xs : List Value} (h : w.ownsRow B e sz v n xs) (hk : ∀ k, v.ownBlock = some k → w'.heap[k]? = w.heap[k]?) : w'.ownsRow B e sz v n xs := by
  refine ⟨h.1, ?_⟩
  rcases h.2 with h2 | ⟨b, cap, cur, e1, e2, e3, e4⟩
  · exact Or.inl h2
  · exact Or.inr ⟨b, cap, cur, e1, e2, (hk b (by rw [e1]; rfl)).trans e3, e4⟩
def idsV (I : List (List UInt8)) : List Value := (I.map bv).flatten
theorem idsV_snoc (I : List (List UInt8)) (x : List UInt8) : idsV (I ++ [x]) = idsV I ++ bv x := by unfold idsV; simp
theorem fold_at : ∀ (l : List Value) (k : Nat) (A : Array Value) (j : Nat), (List.foldl (fun (cs : Array Value) (x : Value × Nat) => cs.setIfInBounds x.2 x.1) A (l.zipIdx k))[j]? = if k ≤ j ∧ j < k + l.length ∧ j < A.size then l[j - k]? else A[j]?
  | [], k, A, j => by rw [if_neg (by simp; omega)]; rfl
  | v :: l, k, A, j => by
    rw [List.zipIdx_cons, List.foldl_cons, fold_at l (k + 1) _ j, Array.size_setIfInBounds, List.length_cons]
    by_cases h : k = j
    · subst h
      rw [if_neg (by omega), Array.getElem?_setIfInBounds, if_pos rfl]
      by_cases h2 : k < A.size
      · rw [if_pos h2, if_pos (by omega), Nat.sub_self]; rfl
      · rw [if_neg h2, if_neg (by omega), Array.getElem?_eq_none (by omega)]
    · rw [Array.getElem?_setIfInBounds, if_neg h]
      by_cases h2 : k + 1 ≤ j ∧ j < k + 1 + l.length ∧ j < A.size
      · rw [if_pos h2, if_pos (by omega)]
        obtain ⟨d, rfl⟩ : ∃ d, j = k + 1 + d := ⟨j - (k + 1), by omega⟩
        rw [show k + 1 + d - (k + 1) = d by omega, show k + 1 + d - k = d + 1 by omega, List.getElem?_cons_succ]
      · rw [if_neg h2, if_neg (by omega)]
theorem build_ids {F : List Value} (hF : F.length = n32) (g : Nat → Value) : List.foldl (fun (cs : Array Value) (x : Value × Nat) => cs.setIfInBounds x.2 x.1) (Array.map g (Array.range n32)) F.zipIdx = F.toArray := by
  have h1 : (Array.map g (Array.range n32)).size = n32 := by rw [Array.size_map, Array.size_range]
  generalize Array.map g (Array.range n32) = A at *
  apply Array.ext_getElem?
  intro j
  rw [fold_at, Nat.zero_add, Nat.sub_zero]
  by_cases h : j < n32
  · rw [if_pos ⟨Nat.zero_le _, by omega, by omega⟩]; simp
  · rw [if_neg (fun x => h (by omega)), Array.getElem?_eq_none (by omega), Array.getElem?_eq_none (by rw [List.size_toArray]; omega)]
theorem id_info : (Tryd.prog.info? 33).map (fun i => (i.zero, i.size, i.bytes)) = some (some (.agg (bv zeros).toArray), 32, 32) := by kernel_rfl
theorem srcI_one (w : World) (X : List UInt8) (hX : X.length = 32) : Src Tryd.prog 32 29 (.slice (some ⟨w.heap.size, 0, none⟩) 1 1) 1 (bv X) (w.alloc (.cells (bv X).toArray 33)) := by
  refine Src.ofSlice _ Tryd.underlying29 _ _ 1 _ (by rw [bv_len, hX]) (fun j u hj => ?_) (fun u hu => bv_one X u hu)
  rw [Addr.add_mid, Nat.zero_add, cell_of_row (w.alloc (.cells (bv X).toArray 33)) _ _ _ _ _ (new_five w (bv X).toArray 33)]
  simpa using hj
theorem own_ids {w : World} {B : Nat} {v : Value} {I : List (List UInt8)} (h : w.ownsRow B 33 32 v I.length (idsV I)) (hI : ∀ x ∈ I, x.length = 32) : IDsC (fun k => B ≤ k ∧ k < w.heap.size) w v I := by
  rcases h.2 with ⟨h1, h2⟩ | ⟨g, cap, cur, h1, h2, h3, h4, h5, h6, h7⟩
  · exact Or.inl ⟨List.length_eq_zero_iff.1 h2, none, 0, by rw [h1]⟩
  · refine Or.inr ⟨⟨g, 0, none⟩, cap, h1, ⟨h2, (Array.getElem?_eq_some_iff.1 h3).1⟩, h4, fun i hi => ⟨hI _ (List.getElem_mem hi), fun j hj => ?_⟩⟩
    have e : ((⟨g, 0, none⟩ : Addr).add (i * n32)).add j = ⟨g, i * 32 + j, none⟩ := by rw [add_pos, add_pos, Nat.zero_add]; rfl
    rw [e]
    have hj32 : j < 32 := by rw [← hI _ (List.getElem_mem hi)]; exact hj
    have hc : (I.map bv)[i]? = some (bv I[i]) := by simp [List.getElem?_eq_getElem hi]
    have hf := flatten_at (sz := 32) (I.map bv) i (bv I[i]) (fun c hc => by
      obtain ⟨y, hy, rfl⟩ := List.mem_map.1 hc
      rw [bv_len, hI y hy]) hc j hj32
    have he : (bv I[i])[j]? = some (.int .u8 (I[i][j].toNat : Nat)) := by
      rw [← List.getElem?_toArray, bv_at hj]
    have hx : (idsV I)[i * 32 + j]? = some (.int .u8 (I[i][j].toNat : Nat)) := hf.trans he
    rw [cell_of_row w g _ cur _ _ h3]
    rw [← h7, List.getElem?_take] at hx
    split at hx
    · simpa using hx
    · cases hx
theorem idsV_one (I : List (List UInt8)) : ∀ u ∈ idsV I, u.oneCell' = true := by
  intro u hu
  unfold idsV at hu
  obtain ⟨l, hl, h2⟩ := List.mem_flatten.1 hu
  obtain ⟨y, _, rfl⟩ := List.mem_map.1 hl
  exact bv_one y u h2

theorem IDsC.len_all {S : Nat → Prop} {w : World} {v : Value} {ts : List (List UInt8)} (h : IDsC S w v ts) : ∀ x ∈ ts, x.length = 32 := by
  rcases h with ⟨rfl, _⟩ | ⟨a, cap, _, _, _, h4⟩
  · intro x hx; simp at hx
  · intro x hx
    obtain ⟨i, hi, rfl⟩ := List.mem_iff_getElem.1 hx
    exact (h4 i hi).1
end Go.Proofs.YtdolonkeanlaoaaDoor
