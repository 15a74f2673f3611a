/- A text of both sides, as a function: what mix makes. -/
import Derived.Test.YtjlpdoppnhcjoaaDoorWeavP
import Derived.Test.YtjlpdoppnhcjoaaDoorWeavMath
import Derived.Test.YtjlpdoppnhcjoaaDoorJnL
import Derived.Test.YtjlpdoppnhcjoaaDoorJnM
namespace Go.Proofs.YtjlpdoppnhcjoaaDoor
open Go.RowKit Go.Lib
attribute [local go_sem ↓] Go.wp_at_zero Go.wp_at_succ
theorem closed_flat (l : List Line) : (closedN l).flatten.length ≤ l.flatten.length + 1 := by
  unfold closedN
  split
  · omega
  · rename_i x hx
    split
    · omega
    · have e := List.getLast?_eq_some_iff.1 hx
      obtain ⟨ys, rfl⟩ := e
      simp; omega
theorem text1_flat (head foot : Line) (p : PartN Line) : (text1 head foot p).flatten.length ≤ p.base.flatten.length + p.ours.flatten.length + p.theirs.flatten.length + (head.length + foot.length + 30) := by
  rcases text1_cases head foot p with e | e | ⟨e, _⟩
  · rw [e]; omega
  · rw [e]; omega
  · rw [e]
    have h1 := closed_flat p.base
    have h2 := closed_flat p.ours
    have h3 := closed_flat p.theirs
    simp only [List.flatten_append, List.length_append, List.flatten_cons, List.flatten_nil, List.append_nil, List.length_cons, List.length_nil]
    omega
theorem flat_flat {α β : Type} (f : α → List (List β)) (l : List α) : (l.flatMap f).flatten.length = (l.map fun x => (f x).flatten.length).sum := by
  induction l with
  | nil => rfl
  | cons x r ih => rw [List.flatMap_cons, List.flatten_append, List.length_append, ih, List.map_cons, List.sum_cons]
theorem text_flat (head foot : Line) (M : List (PartN Line)) : (textN head foot M).flatten.length ≤ (M.flatMap PartN.base).flatten.length + (M.flatMap PartN.ours).flatten.length + (M.flatMap PartN.theirs).flatten.length + M.length * (head.length + foot.length + 30) := by
  unfold textN
  rw [flat_flat, flat_flat, flat_flat, flat_flat]
  induction M with
  | nil => simp
  | cons p r ih =>
    have h := text1_flat head foot p
    simp only [List.map_cons, List.sum_cons, List.length_cons, Nat.add_mul, Nat.one_mul]
    omega
theorem few_parts (a b c : List Line) : (mergeN a b c).length ≤ a.length + b.length + c.length := by
  have e := lens_sum (mergeN a b c)
  obtain ⟨f1, f2, f3⟩ := merge_flat a b c
  rw [f1, f2, f3] at e
  rw [← e]
  have hg := good_all (merge_good a b c)
  clear e f1 f2 f3
  generalize mergeN a b c = M at hg ⊢
  induction M with
  | nil => exact Nat.le_refl _
  | cons p r ih =>
    have i1 := ih (fun q hq => hg q (List.mem_cons_of_mem _ hq))
    have h1 := (hg p List.mem_cons_self).2
    have h2 : 1 ≤ p.base.length + p.ours.length + p.theirs.length := by
      rcases Nat.eq_zero_or_pos (p.base.length + p.ours.length + p.theirs.length) with h | h
      · exact absurd ⟨List.length_eq_zero_iff.1 (by omega), List.length_eq_zero_iff.1 (by omega), List.length_eq_zero_iff.1 (by omega)⟩ h1
      · exact h
    rw [List.map_cons, List.sum_cons, List.length_cons]
    omega
theorem wtext_any {w : World} {S : Nat → Prop} {v : Value} {M : List (PartN (List UInt8))} {a b c : List (List UInt8)} (hM : M = mergeN a b c) (hp : PartsC S w v M) (hS : ∀ k, S k → k < w.heap.size) (hl : a.length ≤ 6000 ∧ b.length ≤ 6000 ∧ c.length ≤ 6000) (hax : ∀ x ∈ a, x.length ≤ 4194304) (hbx : ∀ x ∈ b, x.length ≤ 4194304) (hcx : ∀ x ∈ c, x.length ≤ 4194304) (so st : List UInt8) (hso : so.length ≤ 100) (hst : st.length ≤ 100):
    Calls Tryd.prog 56 #[v, .string ⟨so.toArray⟩, .string ⟨st.toArray⟩] w fun e w' => ∃ v, e = .returned (.tuple #[v, .bool (calmN M)]) ∧ OwnS w' w.heap.size v (textN (headN so) (footN st) M) ∧ Below w.heap.size w w' := by
  obtain ⟨f1, f2, f3⟩ := merge_flat a b c
  have hmem : ∀ p ∈ M, (∀ x ∈ p.base, x ∈ a) ∧ (∀ x ∈ p.ours, x ∈ b) ∧ (∀ x ∈ p.theirs, x ∈ c) := fun p hp => by
    subst hM
    exact ⟨fun x hx => by rw [← f1]; exact List.mem_flatMap.2 ⟨p, hp, hx⟩, fun x hx => by rw [← f2]; exact List.mem_flatMap.2 ⟨p, hp, hx⟩, fun x hx => by rw [← f3]; exact List.mem_flatMap.2 ⟨p, hp, hx⟩⟩
  have hg : ∀ p ∈ M, GoodPart p := by subst hM; exact good_all (merge_good a b c)
  have hlen : partsN M ≤ 5 * (a.length + b.length + c.length) ∧ M.length ≤ a.length + b.length + c.length := by
    have e := lens_sum M
    have e1 : (M.flatMap PartN.base).length = a.length := by rw [hM, f1]
    have e2 : (M.flatMap PartN.ours).length = b.length := by rw [hM, f2]
    have e3 : (M.flatMap PartN.theirs).length = c.length := by rw [hM, f3]
    rw [e1, e2, e3] at e
    rw [← e]
    clear e e1 e2 e3 hp hM hmem f1 f2 f3
    induction M with
    | nil => simp [partsN]
    | cons p r ih =>
      obtain ⟨i1, i2⟩ := ih (fun q hq => hg q (List.mem_cons_of_mem _ hq))
      have h1 := (hg p List.mem_cons_self).2
      have h2 : 1 ≤ p.base.length + p.ours.length + p.theirs.length := by
        rcases Nat.eq_zero_or_pos (p.base.length + p.ours.length + p.theirs.length) with h | h
        · exact absurd ⟨List.length_eq_zero_iff.1 (by omega), List.length_eq_zero_iff.1 (by omega), List.length_eq_zero_iff.1 (by omega)⟩ h1
        · exact h
      rw [partsN_cons, List.map_cons, List.sum_cons, List.length_cons]
      omega
  exact text_any S v M so st w hS hp (by omega) (fun p hp => ⟨fun x hx => hax x ((hmem p hp).1 x hx), fun x hx => hbx x ((hmem p hp).2.1 x hx), fun x hx => hcx x ((hmem p hp).2.2 x hx)⟩) (by omega) (by omega) (by omega)

/-- Where the texts come from: bytes, and an error's number. -/
abbrev SrcN := (Nat → UInt8) → List UInt8 × Int
/-- The lines of one of the three. -/
def lineN (T : SrcN) (o : OutN) (i : Nat) : List (List UInt8) := if o.has i = true then linesL (T (o.ids i)).1 else []
/-- Where there is no merge: the error's number; 0, where one is no text. -/
def stopAt (T : SrcN) (o : OutN) (i : Nat) : Option Int := if o.has i = true then (if (T (o.ids i)).2 ≠ 0 then some (T (o.ids i)).2 else if isTextB (T (o.ids i)).1 = true then none else some 0) else none
def stopN (T : SrcN) (o : OutN) : Nat → Nat → Option Int
  | 0, _ => none
  | n + 1, i => match stopAt T o i with
    | some c => some c
    | none => stopN T o n (i + 1)
def mixM (T : SrcN) (o : OutN) : List (PartN (List UInt8)) := mergeN (lineN T o 0) (lineN T o 1) (lineN T o 2)
def oursT : List UInt8 := [111, 117, 114, 115]
def theirsT : List UInt8 := [116, 104, 101, 105, 114, 115]
def mixL (T : SrcN) (o : OutN) : List UInt8 := (textN (headN oursT) (footN theirsT) (mixM T o)).flatten
def mixK (T : SrcN) (o : OutN) (k : Int) : Int := if calmN (mixM T o) = true then 2 else k
theorem lineN_len {T : SrcN} (hT : ∀ f, (T f).1.length ≤ 600) (o : OutN) (i : Nat) : (lineN T o i).length ≤ 600 ∧ (lineN T o i).flatten.length ≤ 600 ∧ ∀ x ∈ lineN T o i, x.length ≤ 600 := by
  unfold lineN
  split
  · have h := hT (o.ids i)
    refine ⟨Nat.le_trans (linesL_len _) h, by rw [linesL_flat]; exact h, fun x hx => Nat.le_trans (linesL_mem _ x hx) h⟩
  · exact ⟨by simp, by simp, fun x hx => (by cases hx)⟩
theorem mixL_len {T : SrcN} (hT : ∀ f, (T f).1.length ≤ 600) (o : OutN) : (mixL T o).length ≤ 4194304 := by
  unfold mixL mixM
  obtain ⟨a1, a2, _⟩ := lineN_len hT o 0
  obtain ⟨b1, b2, _⟩ := lineN_len hT o 1
  obtain ⟨c1, c2, _⟩ := lineN_len hT o 2
  have h := text_flat (headN oursT) (footN theirsT) (mergeN (lineN T o 0) (lineN T o 1) (lineN T o 2))
  obtain ⟨f1, f2, f3⟩ := merge_flat (lineN T o 0) (lineN T o 1) (lineN T o 2)
  rw [f1, f2, f3] at h
  have hp := few_parts (lineN T o 0) (lineN T o 1) (lineN T o 2)
  have e1 : (headN oursT).length = 13 := rfl
  have e2 : (footN theirsT).length = 15 := rfl
  rw [e1, e2] at h
  omega
end Go.Proofs.YtjlpdoppnhcjoaaDoor
