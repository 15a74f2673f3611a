/- Lists of byte slices in memory. -/
import Derived.Test.YteijekhmgedhoaaDoorBase
namespace Go.Proofs.YteijekhmgedhoaaDoor
open Go.RowKit

/-- A slice value whose cells, all in blocks of S, hold slices of these bytes, in blocks of S too. -/
def ChunksC (S : Nat → Prop) (w : World) (v : Value) (ls : List (List UInt8)) : Prop :=
  (v = .slice none 0 0 ∧ ls = []) ∨ ∃ a cap, v = .slice (some a) ls.length cap ∧ ls.length ≤ cap ∧ cap ≤ maxLen ∧ (ls = [] ∨ S a.block) ∧ ∀ j l, ls[j]? = some l → ∃ vj, w.cell? (a.add j) = some vj ∧ BytesC S w vj l
theorem ChunksC.kept {S S' : Nat → Prop} {w w' : World} {v : Value} {ls : List (List UInt8)} (h : ChunksC S w v ls) (hk : ∀ k, S k → S' k ∧ w'.heap[k]? = w.heap[k]?) : ChunksC S' w' v ls := by
  rcases h with h | ⟨a, cap, h1, h2, h3, h4, h5⟩
  · exact Or.inl h
  · refine Or.inr ⟨a, cap, h1, h2, h3, h4.imp_right (fun h => (hk _ h).1), fun j l hj => ?_⟩
    obtain ⟨vj, e1, e2⟩ := h5 j l hj
    rcases h4 with rfl | h4
    · simp at hj
    · exact ⟨vj, (World.cell?_of_block (w := w) (by rw [add_block]; exact (hk _ h4).2)).trans e1, e2.kept hk⟩
theorem ChunksC.shape {S : Nat → Prop} {w : World} {v : Value} {ls : List (List UInt8)} (h : ChunksC S w v ls) : ∃ a cap, v = .slice a ls.length cap := by
  rcases h with ⟨rfl, rfl⟩ | ⟨a, cap, rfl, _⟩
  · exact ⟨none, 0, rfl⟩
  · exact ⟨_, _, rfl⟩
theorem flat_take {ls : List (List UInt8)} {k : Nat} (h : k < ls.length) : (ls.take (k + 1)).flatten = (ls.take k).flatten ++ ls[k] := by
  rw [List.take_succ_eq_append_getElem h, List.flatten_append]; simp
theorem flat_le (ls : List (List UInt8)) (k : Nat) : (ls.take k).flatten.length ≤ ls.flatten.length := by
  conv => rhs; rw [← List.take_append_drop k ls, List.flatten_append, List.length_append]
  omega
end Go.Proofs.YteijekhmgedhoaaDoor
