/- Rows of ints in memory. -/
import Derived.Test.YteijekhmgedhoaaDoorBase
namespace Go.Proofs.YteijekhmgedhoaaDoor
open Go.RowKit

/-- Ints in memory. -/
def iv (l : List Nat) : List Value := l.map fun c : Nat => Value.int .i64 (c : Int)
theorem iv_len (l : List Nat) : (iv l).length = l.length := by unfold iv; simp
theorem iv_append (l r : List Nat) : iv (l ++ r) = iv l ++ iv r := by unfold iv; rw [List.map_append]
theorem iv_one (l : List Nat) : ∀ u ∈ iv l, u.oneCell' = true := by
  intro u hu
  unfold iv at hu
  obtain ⟨c, _, rfl⟩ := List.mem_map.1 hu
  rfl
def OwnI (w : World) (B : Nat) (v : Value) (l : List Nat) : Prop := w.ownsRow B 3 1 v l.length (iv l)
theorem Tryd.info3 : (Tryd.prog.info? 3).map (fun i => (i.zero, i.size, i.bytes)) = some (some (.int .i64 0), 1, 8) := by kernel_rfl
theorem ownI_nil (w : World) (B : Nat) : OwnI w B (.slice none 0 0) [] := World.ownsRow_nil _ _ _ _
theorem ownI_push {w2 : World} {B : Nat} {v : Value} {l : List Nat} {x : Int} (n : Nat) (hx : x = (n : Int)) (h : w2.ownsRow B 3 1 v (l.length + 1) (iv l ++ [.int .i64 x])) : OwnI w2 B v (l ++ [n]) := by
  unfold OwnI
  rw [iv_append, List.length_append, show iv [n] = [Value.int .i64 x] by rw [hx]; rfl]; exact h
theorem srcI_one (w : World) (x : Int) : Src Tryd.prog 1 99 (.slice (some ⟨w.heap.size, 0, none⟩) 1 1) 1 [.int .i64 x] (w.alloc (.cells #[.int .i64 x] 3)) :=
  Src.ofSlice _ Tryd.underlying99 _ 1 1 _ rfl (news_one _ _ _) (fun u hu => by rw [List.mem_singleton] at hu; subst hu; rfl)
/-- A slice value whose cells, all in blocks of S, hold these ints. -/
def IntsC (S : Nat → Prop) (w : World) (v : Value) (l : List Nat) : Prop :=
  (v = .slice none 0 0 ∧ l = []) ∨ ∃ a cap, v = .slice (some a) l.length cap ∧ l.length ≤ cap ∧ cap ≤ maxLen ∧ (l = [] ∨ S a.block) ∧ ∀ j u, (iv l)[j]? = some u → w.cell? (a.add j) = some u
theorem IntsC.kept {S S' : Nat → Prop} {w w' : World} {v : Value} {l : List Nat} (h : IntsC S w v l) (hk : ∀ k, S k → S' k ∧ w'.heap[k]? = w.heap[k]?) : IntsC S' w' v l := by
  rcases h with h | ⟨a, cap, h1, h2, h3, h4, h5⟩
  · exact Or.inl h
  · refine Or.inr ⟨a, cap, h1, h2, h3, h4.imp_right (fun h => (hk _ h).1), fun j u hj => ?_⟩
    rcases h4 with rfl | h4
    · simp [iv] at hj
    · rw [World.cell?_of_block (w := w) (by rw [add_block]; exact (hk _ h4).2)]; exact h5 j u hj
theorem IntsC.shape {S : Nat → Prop} {w : World} {v : Value} {l : List Nat} (h : IntsC S w v l) : ∃ a cap, v = .slice a l.length cap := by
  rcases h with ⟨rfl, rfl⟩ | ⟨a, cap, rfl, _⟩
  · exact ⟨none, 0, rfl⟩
  · exact ⟨_, _, rfl⟩
theorem ownI_c {w : World} {B : Nat} {v : Value} {l : List Nat} (h : OwnI w B v l) : IntsC (fun k => B ≤ k ∧ k < w.heap.size) w v l := by
  rcases h.2 with ⟨rfl, hn⟩ | ⟨g, cap, cur, rfl, hB, hg, hnc, hcm, _⟩
  · exact Or.inl ⟨rfl, List.length_eq_zero_iff.1 hn⟩
  · exact Or.inr ⟨_, cap, rfl, hnc, hcm, Or.inr ⟨hB, (Array.getElem?_eq_some_iff.1 hg).1⟩, World.ownsRow.cells h rfl⟩
theorem IntsC.src {S : Nat → Prop} {w : World} {v : Value} {l : List Nat} (h : IntsC S w v l) : Src Tryd.prog 1 99 v l.length (iv l) w := by
  rcases h with ⟨rfl, rfl⟩ | ⟨a, cap, rfl, _, _, _, h3⟩
  · exact Src.ofNil w Tryd.underlying99 0
  · exact Src.ofSlice w Tryd.underlying99 a _ cap _ (by rw [iv_len]; omega) h3 (iv_one l)
theorem ownI_slice {w : World} {B : Nat} {v : Value} {l : List Nat} (h : OwnI w B v l) : ∃ a cap, v = .slice a l.length cap := by
  rcases h.2 with ⟨e, hn⟩ | ⟨g, cap, cur, e, _⟩
  · rw [hn]; exact ⟨none, 0, e⟩
  · exact ⟨_, _, e⟩
end Go.Proofs.YteijekhmgedhoaaDoor
