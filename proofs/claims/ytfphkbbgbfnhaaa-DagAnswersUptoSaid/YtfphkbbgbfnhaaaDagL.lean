/- Members without those that stand there twice in a row, as lists; and put in order. -/
import Derived.Test.YtfphkbbgbfnhaaaDagB
namespace Go.Proofs.Ytfphkbbgbfnhaaa

theorem snoc_ind {α : Type} {P : List α → Prop} (h0 : P []) (h1 : ∀ l x, P l → P (l ++ [x])) (l : List α) : P l := by
  have h : ∀ r : List α, P r.reverse := by
    intro r
    induction r with
    | nil => exact h0
    | cons x r ih => rw [List.reverse_cons]; exact h1 _ _ ih
  have := h l.reverse
  rwa [List.reverse_reverse] at this
/-- One more, unless it is the last one already. -/
def compS (a : List Nat) (x : Nat) : List Nat := if a.getLast? = some x then a else a ++ [x]
def compN (l : List Nat) : List Nat := l.foldl compS []
theorem compN_snoc (l : List Nat) (x : Nat) : compN (l ++ [x]) = compS (compN l) x := by unfold compN; rw [List.foldl_append]; rfl
theorem compN_last (l : List Nat) : (compN l).getLast? = l.getLast? := by
  induction l using snoc_ind with
  | h0 => rfl
  | h1 l x _ =>
    rw [compN_snoc]
    unfold compS
    by_cases h : (compN l).getLast? = some x
    · rw [if_pos h, h]; simp
    · rw [if_neg h]; simp
theorem compN_mem (l : List Nat) (y : Nat) : y ∈ compN l ↔ y ∈ l := by
  induction l using snoc_ind with
  | h0 => simp [compN]
  | h1 l x ih =>
    rw [compN_snoc]
    unfold compS
    by_cases h : (compN l).getLast? = some x
    · rw [if_pos h, ih, List.mem_append, List.mem_singleton]
      constructor
      · exact Or.inl
      · rintro (h2 | rfl)
        · exact h2
        · rw [compN_last] at h
          exact List.mem_of_getLast? h
    · rw [if_neg h, List.mem_append, List.mem_append, ih]
theorem compN_len (l : List Nat) : (compN l).length ≤ l.length := by
  induction l using snoc_ind with
  | h0 => simp [compN]
  | h1 l x ih =>
    rw [compN_snoc]
    unfold compS
    split <;> simp <;> omega
theorem last_take {l : List Nat} {k : Nat} (hk : 0 < k) (h : k ≤ l.length) : (l.take k).getLast? = some (l.getD (k - 1) 0) := by
  obtain ⟨m, rfl⟩ : ∃ m, k = m + 1 := ⟨k - 1, by omega⟩
  rw [List.take_succ_eq_append_getElem (by omega), List.getLast?_concat]
  simp [List.getD, show m < l.length by omega]
/-- As long as no two alike stand side by side. -/
theorem compN_same (l : List Nat) (k : Nat) (hk : k ≤ l.length) (h : ∀ j, 1 ≤ j → j < k → l.getD j 0 ≠ l.getD (j - 1) 0) : compN (l.take k) = l.take k := by
  induction k with
  | zero => simp [compN]
  | succ k ih =>
    have ih := ih (by omega) (fun j h1 h2 => h j h1 (by omega))
    have e : l.take (k + 1) = l.take k ++ [l.getD k 0] := by
      rw [List.take_succ_eq_append_getElem (by omega)]; simp [List.getD, show k < l.length by omega]
    rw [e, compN_snoc, ih]
    unfold compS
    rw [if_neg]
    by_cases h0 : k = 0
    · subst h0; simp
    · rw [last_take (by omega) (by omega)]
      intro h2
      injection h2 with h2
      exact h k (by omega) (by omega) h2.symm
theorem compN_step (l : List Nat) (m : Nat) (h0 : 0 < m) (h : m < l.length) : compN (l.take (m + 1)) = if l.getD m 0 = l.getD (m - 1) 0 then compN (l.take m) else compN (l.take m) ++ [l.getD m 0] := by
  have e : l.take (m + 1) = l.take m ++ [l.getD m 0] := by
    rw [List.take_succ_eq_append_getElem h]; simp [List.getD, h]
  rw [e, compN_snoc]
  unfold compS
  rw [compN_last, last_take h0 (by omega)]
  by_cases h2 : l.getD m 0 = l.getD (m - 1) 0
  · rw [if_pos h2, if_pos (by rw [h2])]
  · rw [if_neg h2, if_neg (fun h3 => by injection h3 with h3; exact h2 h3.symm)]
/-- Put in order and without those that are there twice. -/
theorem compN_asc (nm : Nat → Txt) (l : List Nat) (hi : ∀ i ∈ l, ∀ j ∈ l, nm i = nm j → i = j) (hs : l.Pairwise (fun a b => ¬ nm b < nm a)) : (compN l).Pairwise (fun a b => nm a < nm b) := by

  induction l using snoc_ind with
  | h0 => exact List.Pairwise.nil
  | h1 l x ih =>
    rw [List.pairwise_append] at hs
    have ih := ih (fun i h1 j h2 => hi i (List.mem_append_left _ h1) j (List.mem_append_left _ h2)) hs.1
    rw [compN_snoc]
    unfold compS
    by_cases h : (compN l).getLast? = some x
    · rw [if_pos h]; exact ih
    · rw [if_neg h, List.pairwise_append]
      refine ⟨ih, List.pairwise_singleton _ _, fun a ha b hb => ?_⟩
      rw [List.mem_singleton] at hb
      subst hb
      have hal : a ∈ l := (compN_mem l a).1 ha
      have h1 := hs.2.2 a hal b (by simp)
      by_cases h2 : nm a < nm b
      · exact h2
      · exfalso
        have e := t_tri _ _ h2 h1
        have hab := hi a (List.mem_append_left _ hal) b (by simp) e
        subst hab
        -- a is among those kept, but not the last: the last one stands behind it
        obtain ⟨y, hy⟩ : ∃ y, (compN l).getLast? = some y := by
          cases hc : (compN l).getLast? with
          | none => rw [List.getLast?_eq_none_iff] at hc; rw [hc] at ha; cases ha
          | some y => exact ⟨y, rfl⟩
        have hya : y ≠ a := fun e => h (by rw [hy, e])
        obtain ⟨r, hr⟩ := List.getLast?_eq_some_iff.1 hy
        rw [hr, List.pairwise_append] at ih
        rw [hr, List.mem_append, List.mem_singleton] at ha
        rcases ha with ha | ha
        · have h3 := ih.2.2 a ha y (by simp)
          have hyl : y ∈ l := (compN_mem l y).1 (by rw [hr]; simp)
          exact hs.2.2 y hyl a (by simp) h3
        · exact hya ha.symm
end Go.Proofs.Ytfphkbbgbfnhaaa
