/- Texts in their order; lists of texts in order, each once; what tips, bases, and what is missing are, as lists. -/
import Derived.Test.YtfphkbbgbfnhaaaDagA
import Derived.Lib.Bytealg
namespace Go.Proofs.Ytfphkbbgbfnhaaa

theorem t_irrefl (a : Txt) : ¬ a < a := List.lt_irrefl a
theorem t_trans {a b c : Txt} (h : a < b) (k : b < c) : a < c := List.lt_trans h k
theorem t_asymm {a b : Txt} (h : a < b) : ¬ b < a := fun k => t_irrefl a (t_trans h k)
theorem t_tri (a b : Txt) (h : ¬ a < b) (k : ¬ b < a) : a = b := List.le_antisymm (List.not_lt.1 k) (List.not_lt.1 h)
theorem cmp_lt (a b : Txt) : Lib.compareBytes a b = if a < b then -1 else if b < a then 1 else 0 := by
  induction a generalizing b with
  | nil => cases b <;> simp [Lib.compareBytes]
  | cons x a ih =>
    cases b with
    | nil => simp [Lib.compareBytes]
    | cons y b =>
      unfold Lib.compareBytes
      rw [ih b]
      simp only [List.cons_lt_cons_iff]
      by_cases h1 : x < y
      · simp [h1]
      · by_cases h2 : y < x
        · have h3 : ¬ x = y := fun e => by subst e; exact h1 h2
          simp [h1, h2, h3]
        · have h3 : x = y := by
            apply UInt8.toNat_inj.1
            simp only [UInt8.lt_iff_toNat_lt] at h1 h2
            omega
          subst h3
          simp [h1]
/-- In order, each once. -/
def Asc (l : List Txt) : Prop := l.Pairwise (· < ·)
theorem asc_eq {l r : List Txt} (hl : Asc l) (hr : Asc r) (h : ∀ x, x ∈ l ↔ x ∈ r) : l = r := by
  induction l generalizing r with
  | nil =>
    cases r with
    | nil => rfl
    | cons y r => have := (h y).2 List.mem_cons_self; cases this
  | cons x l ih =>
    cases r with
    | nil => have := (h x).1 List.mem_cons_self; cases this
    | cons y r =>
      obtain ⟨hl1, hl2⟩ := List.pairwise_cons.1 hl
      obtain ⟨hr1, hr2⟩ := List.pairwise_cons.1 hr
      have e : x = y := by
        have a := (h x).1 List.mem_cons_self
        have b := (h y).2 List.mem_cons_self
        rcases List.mem_cons.1 a with a | a
        · exact a
        · rcases List.mem_cons.1 b with b | b
          · exact b.symm
          · exact absurd (hl1 _ b) (t_asymm (hr1 _ a))
      subst e
      congr 1
      refine ih hl2 hr2 (fun z => ?_)
      have := h z
      simp only [List.mem_cons] at this
      constructor
      · intro hz
        rcases this.1 (Or.inr hz) with e | e
        · subst e; exact absurd (hl1 _ hz) (t_irrefl _)
        · exact e
      · intro hz
        rcases this.2 (Or.inr hz) with e | e
        · subst e; exact absurd (hr1 _ hz) (t_irrefl _)
        · exact e
/-- A text among some in order. -/
def withN (l : List Txt) (s : Txt) : List Txt := if s ∈ l then l else l.filter (fun x => decide (x < s)) ++ s :: l.filter (fun x => decide (s < x))
theorem mem_withN (l : List Txt) (s x : Txt) : x ∈ withN l s ↔ x = s ∨ x ∈ l := by
  unfold withN
  split
  · rename_i h
    constructor
    · exact Or.inr
    · rintro (rfl | h2)
      · exact h
      · exact h2
  · rename_i h
    simp only [List.mem_append, List.mem_filter, List.mem_cons, decide_eq_true_eq]
    constructor
    · rintro (⟨a, _⟩ | a | ⟨a, _⟩)
      · exact Or.inr a
      · exact Or.inl a
      · exact Or.inr a
    · rintro (a | a)
      · exact Or.inr (Or.inl a)
      · by_cases e1 : x < s
        · exact Or.inl ⟨a, e1⟩
        · by_cases e2 : s < x
          · exact Or.inr (Or.inr ⟨a, e2⟩)
          · have := t_tri _ _ e1 e2
            subst this; exact absurd a h
theorem asc_withN {l : List Txt} (h : Asc l) (s : Txt) : Asc (withN l s) := by
  unfold withN
  split
  · exact h
  · unfold Asc
    rw [List.pairwise_append]
    refine ⟨List.Pairwise.filter _ h, ?_, ?_⟩
    · rw [List.pairwise_cons]
      refine ⟨fun x hx => ?_, List.Pairwise.filter _ h⟩
      simpa using (List.mem_filter.1 hx).2
    · intro x hx y hy
      have a : x < s := by simpa using (List.mem_filter.1 hx).2
      rcases List.mem_cons.1 hy with rfl | hy
      · exact a
      · exact t_trans a (by simpa using (List.mem_filter.1 hy).2)
/-- Texts put in order, each once. -/
def ascN (l : List Txt) : List Txt := l.foldl withN []
theorem ascN_aux (l : List Txt) : ∀ m, Asc m → Asc (l.foldl withN m) ∧ ∀ x, x ∈ l.foldl withN m ↔ x ∈ m ∨ x ∈ l := by
  induction l with
  | nil => intro m hm; exact ⟨hm, fun x => by simp⟩
  | cons y l ih =>
    intro m hm
    obtain ⟨h1, h2⟩ := ih (withN m y) (asc_withN hm y)
    refine ⟨h1, fun x => ?_⟩
    rw [List.foldl_cons, h2, mem_withN, List.mem_cons]
    constructor
    · rintro ((a | a) | a)
      · exact Or.inr (Or.inl a)
      · exact Or.inl a
      · exact Or.inr (Or.inr a)
    · rintro (a | a | a)
      · exact Or.inl (Or.inr a)
      · exact Or.inl (Or.inl a)
      · exact Or.inr a
theorem asc_ascN (l : List Txt) : Asc (ascN l) := (ascN_aux l [] List.Pairwise.nil).1
theorem mem_ascN (l : List Txt) (x : Txt) : x ∈ ascN l ↔ x ∈ l := by unfold ascN; rw [(ascN_aux l [] List.Pairwise.nil).2]; simp
theorem filter_two (p : Txt → Bool) (l : List Txt) : (l.filter p).length + (l.filter (fun y => !p y)).length = l.length := by
  induction l with
  | nil => rfl
  | cons x l ih => cases h : p x <;> simp [h] <;> omega
theorem ascN_len (l : List Txt) : (ascN l).length ≤ l.length := by
  suffices h : ∀ (l m : List Txt), (l.foldl withN m).length ≤ m.length + l.length by simpa [ascN] using h l []
  intro l
  induction l with
  | nil => intro m; simp
  | cons x l ih =>
    intro m
    have h1 := ih (withN m x)
    have h2 : (withN m x).length ≤ m.length + 1 := by
      unfold withN
      split
      · omega
      · rename_i hx
        have : (m.filter (fun y => decide (x < y))).length ≤ (m.filter (fun y => !decide (y < x))).length := by
          apply List.Sublist.length_le
          have e : m.filter (fun y => decide (x < y)) = (m.filter (fun y => !decide (y < x))).filter (fun y => decide (x < y)) := by
            rw [List.filter_filter]
            apply List.filter_congr
            intro y _
            by_cases h : x < y
            · simp [h, t_asymm h]
            · simp [h]
          rw [e]; exact List.filter_sublist
        have h3 := filter_two (fun y => decide (y < x)) m
        simp only [List.length_append, List.length_cons]
        omega
    rw [List.foldl_cons]; simp; omega
/-- A sorted list of unlike texts is the one in order. -/
theorem sorted_asc {l : List Txt} (hn : l.Nodup) (hs : l.Pairwise (fun a b => ¬ b < a)) : Asc l := by
  unfold Asc
  refine List.Pairwise.imp₂ (R := fun a b => ¬ b < a) (S := fun a b : Txt => a ≠ b) (T := fun a b => a < b) ?_ hs hn
  intro a b h1 h2
  by_cases h : a < b
  · exact h
  · exact absurd (t_tri _ _ h h1) h2
end Go.Proofs.Ytfphkbbgbfnhaaa
