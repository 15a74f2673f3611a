/- How long a merge's text is; how many lines stand fast. -/
import Derived.Test.YtfiogjdjcocbnaaWeavU
namespace Go.Proofs.Ytfiogjdjcocbnaa
open Go.RowKit

theorem closed_flat (l : List Line) : (closedN l).flatten.length ≤ l.flatten.length + 1 := by
  unfold closedN
  split
  · omega
  · rename_i x hx
    split
    · omega
    · have e := List.getLast?_eq_some_iff.1 hx
      obtain ⟨ys, rfl⟩ := e
      simp; omega
theorem text1_flat (head foot : Line) (p : PartN Line) : (text1 head foot p).flatten.length ≤ p.base.flatten.length + p.ours.flatten.length + p.theirs.flatten.length + (head.length + foot.length + 30) := by
  rcases text1_cases head foot p with e | e | ⟨e, _⟩
  · rw [e]; omega
  · rw [e]; omega
  · rw [e]
    have h1 := closed_flat p.base
    have h2 := closed_flat p.ours
    have h3 := closed_flat p.theirs
    simp only [List.flatten_append, List.length_append, List.flatten_cons, List.flatten_nil, List.append_nil, List.length_cons, List.length_nil]
    omega
theorem flat_flat {α β : Type} (f : α → List (List β)) (l : List α) : (l.flatMap f).flatten.length = (l.map fun x => (f x).flatten.length).sum := by
  induction l with
  | nil => rfl
  | cons x r ih => rw [List.flatMap_cons, List.flatten_append, List.length_append, ih, List.map_cons, List.sum_cons]
theorem text_flat (head foot : Line) (M : List (PartN Line)) : (textN head foot M).flatten.length ≤ (M.flatMap PartN.base).flatten.length + (M.flatMap PartN.ours).flatten.length + (M.flatMap PartN.theirs).flatten.length + M.length * (head.length + foot.length + 30) := by
  unfold textN
  rw [flat_flat, flat_flat, flat_flat, flat_flat]
  induction M with
  | nil => simp
  | cons p r ih =>
    have h := text1_flat head foot p
    simp only [List.map_cons, List.sum_cons, List.length_cons, Nat.add_mul, Nat.one_mul]
    omega
theorem few_parts (a b c : List Line) : (mergeN a b c).length ≤ a.length + b.length + c.length := by
  have e := lens_sum (mergeN a b c)
  obtain ⟨f1, f2, f3⟩ := merge_flat a b c
  rw [f1, f2, f3] at e
  rw [← e]
  have hg := good_all (merge_good a b c)
  clear e f1 f2 f3
  generalize mergeN a b c = M at hg ⊢
  induction M with
  | nil => exact Nat.le_refl _
  | cons p r ih =>
    have i1 := ih (fun q hq => hg q (List.mem_cons_of_mem _ hq))
    have h1 := (hg p List.mem_cons_self).2
    have h2 : 1 ≤ p.base.length + p.ours.length + p.theirs.length := by
      rcases Nat.eq_zero_or_pos (p.base.length + p.ours.length + p.theirs.length) with h | h
      · exact absurd ⟨List.length_eq_zero_iff.1 (by omega), List.length_eq_zero_iff.1 (by omega), List.length_eq_zero_iff.1 (by omega)⟩ h1
      · exact h
    rw [List.map_cons, List.sum_cons, List.length_cons]
    omega
/-- The bytes of a merge's text. -/
theorem merge_flat_len (a b c : List Line) (hl : a.length + b.length + c.length ≤ 600) (hf : a.flatten.length + b.flatten.length + c.flatten.length ≤ 3145728) :
    (textN (headN [108]) (footN [114]) (mergeN a b c)).flatten.length ≤ 4194304 ∧ ∀ x ∈ textN (headN [108]) (footN [114]) (mergeN a b c), x.length ≤ 4194304 := by
  have h := text_flat (headN [108]) (footN [114]) (mergeN a b c)
  obtain ⟨f1, f2, f3⟩ := merge_flat a b c
  rw [f1, f2, f3] at h
  have h2 := few_parts a b c
  have h3 : (headN [108]).length + (footN [114]).length + 30 = 50 := by decide
  rw [h3] at h
  have h4 : (textN (headN [108]) (footN [114]) (mergeN a b c)).flatten.length ≤ 4194304 := by omega
  refine ⟨h4, fun x hx => ?_⟩
  have : x.length ≤ (textN (headN [108]) (footN [114]) (mergeN a b c)).flatten.length := by
    generalize textN (headN [108]) (footN [114]) (mergeN a b c) = L at hx
    induction L with
    | nil => cases hx
    | cons y r ih =>
      rw [List.flatten_cons, List.length_append]
      rcases List.mem_cons.1 hx with rfl | hx
      · omega
      · have := ih hx; omega
  omega
theorem mem_flat_len {L : List Line} {s : Line} (h : s ∈ L) : s.length ≤ L.flatten.length := by
  induction L with
  | nil => cases h
  | cons y r ih =>
    rw [List.flatten_cons, List.length_append]
    rcases List.mem_cons.1 h with rfl | h
    · omega
    · have := ih h; omega
/-- How many lines stand fast, counted part by part. -/
def fastLen (l : List (PartN Line)) : Nat := (l.map fun p => if p.kind = 0 then p.base.length else 0).sum
theorem fastLen_cons (p : PartN Line) (r : List (PartN Line)) : fastLen (p :: r) = (if p.kind = 0 then p.base.length else 0) + fastLen r := by unfold fastLen; simp
theorem fastLen_take {M : List (PartN Line)} {k : Nat} {p : PartN Line} (h : M[k]? = some p) : fastLen (M.take (k + 1)) = fastLen (M.take k) + (if p.kind = 0 then p.base.length else 0) := by
  unfold fastLen
  rw [List.take_add_one, h]
  simp
theorem fastLen_steady (l : List (PartN Line)) : fastLen l = (steadyN l).length := by
  induction l with
  | nil => rfl
  | cons p r ih =>
    rw [fastLen_cons, ih]
    unfold steadyN
    rw [List.flatMap_cons, List.length_append]
    split <;> simp
end Go.Proofs.Ytfiogjdjcocbnaa
