/- Longest common lists of two lists: how long they are, one of them place by place. -/
import Derived.RowKit
namespace Go.Proofs.Ytfiogjdjcocbnaa

section
variable {α : Type} [DecidableEq α]
def lcsI (x : α) (f : List α → Nat) : List α → Nat
  | [] => 0
  | y :: b => if x = y then f b + 1 else max (f (y :: b)) (lcsI x f b)
/-- How long a longest list is that two lists have in common. -/
def lcs : List α → List α → Nat
  | [] => fun _ => 0
  | x :: a => lcsI x (lcs a)
theorem lcs_nil (b : List α) : lcs [] b = 0 := rfl
theorem lcs_none (a : List α) : lcs a [] = 0 := by cases a <;> rfl
theorem lcs_same {x : α} (a b : List α) : lcs (x :: a) (x :: b) = lcs a b + 1 := by
  show (if x = x then _ else _) = _
  rw [if_pos rfl]
theorem lcs_ne {x y : α} (h : x ≠ y) (a b : List α) : lcs (x :: a) (y :: b) = max (lcs a (y :: b)) (lcs (x :: a) b) := by
  show (if x = y then _ else _) = _
  rw [if_neg h]; rfl
theorem lcs_bounds (a : List α) : ∀ b : List α, (∀ x : α, lcs a b ≤ lcs (x :: a) b ∧ lcs (x :: a) b ≤ lcs a b + 1) ∧ (∀ y : α, lcs a b ≤ lcs a (y :: b) ∧ lcs a (y :: b) ≤ lcs a b + 1) := by
  induction a with
  | nil =>
    intro b
    refine ⟨fun x => ⟨Nat.zero_le _, ?_⟩, fun y => ⟨Nat.zero_le _, Nat.zero_le _⟩⟩
    induction b with
    | nil => exact Nat.zero_le _
    | cons z b ih =>
      by_cases h : x = z
      · subst h; rw [lcs_same]; exact Nat.le_refl _
      · rw [lcs_ne h]; exact Nat.max_le.2 ⟨Nat.zero_le _, ih⟩
  | cons w a iha =>
    intro b
    induction b with
    | nil =>
      refine ⟨fun x => ?_, fun y => ⟨Nat.zero_le _, ?_⟩⟩
      · rw [lcs_none, lcs_none]; exact ⟨Nat.le_refl _, Nat.zero_le _⟩
      · rw [lcs_none]
        by_cases h : w = y
        · subst h; rw [lcs_same, lcs_none]; exact Nat.le_refl _
        · rw [lcs_ne h, lcs_none]
          have := ((iha []).2 y).2
          rw [lcs_none] at this
          exact Nat.max_le.2 ⟨this, Nat.zero_le _⟩
    | cons z b ihb =>
      have P : ∀ y : α, lcs (w :: a) (z :: b) ≤ lcs (w :: a) (y :: z :: b) ∧ lcs (w :: a) (y :: z :: b) ≤ lcs (w :: a) (z :: b) + 1 := by
        intro y
        have h1 := (iha (z :: b)).1 w
        have h2 := (iha (z :: b)).2 y
        by_cases h : w = y
        · subst h; rw [lcs_same]; omega
        · rw [lcs_ne h]
          have h3 := (iha (y :: z :: b)).1 w
          rw [Nat.max_def]
          split <;> omega
      refine ⟨fun x => ?_, P⟩
      have h1 := (iha b).1 w
      have h2 := (ihb.1 x)
      have h3 := (ihb.2 z)
      have h4 := (iha (z :: b)).1 w
      have h5 := (iha b).2 z
      by_cases h : x = z
      · subst h; rw [lcs_same]; omega
      · rw [lcs_ne h, Nat.max_def]
        split <;> omega
theorem lcs_le_left (x : α) (a b : List α) : lcs a b ≤ lcs (x :: a) b ∧ lcs (x :: a) b ≤ lcs a b + 1 := (lcs_bounds a b).1 x
theorem lcs_le_right (y : α) (a b : List α) : lcs a b ≤ lcs a (y :: b) ∧ lcs a (y :: b) ≤ lcs a b + 1 := (lcs_bounds a b).2 y
/-- The greatest of all three. -/
theorem lcs_best (x y : α) (a b : List α) : lcs (x :: a) (y :: b) = if x = y then lcs a b + 1 else max (lcs a (y :: b)) (lcs (x :: a) b) := rfl
theorem lcs_len (a : List α) : ∀ b : List α, lcs a b ≤ a.length ∧ lcs a b ≤ b.length := by
  induction a with
  | nil => intro b; exact ⟨Nat.zero_le _, Nat.zero_le _⟩
  | cons x a ih =>
    intro b
    refine ⟨by have := (lcs_le_left x a b).2; have := (ih b).1; simp; omega, ?_⟩
    induction b with
    | nil => rw [lcs_none]; exact Nat.zero_le _
    | cons y b ihb => have := (lcs_le_right y (x :: a) b).2; simp; omega
theorem lcs_symm (a : List α) : ∀ b : List α, lcs a b = lcs b a := by
  induction a with
  | nil => intro b; rw [lcs_none, lcs_nil]
  | cons x a ih =>
    intro b
    induction b with
    | nil => rw [lcs_none, lcs_nil]
    | cons y b ihb =>
      by_cases h : x = y
      · subst h; rw [lcs_same, lcs_same, ih]
      · rw [lcs_ne h, lcs_ne (fun e => h e.symm), ihb, ih, Nat.max_comm]
theorem sub_lcs {s a b : List α} (h1 : s.Sublist a) : s.Sublist b → s.length ≤ lcs a b := by
  induction h1 generalizing b with
  | slnil => intro _; exact Nat.zero_le _
  | cons x _ ih => intro h2; exact Nat.le_trans (ih h2) (lcs_le_left x _ b).1
  | @cons_cons s a x _ ih =>
    intro h2
    induction b with
    | nil => cases h2
    | cons y b ihb =>
      cases h2 with
      | cons _ h2 => exact Nat.le_trans (ihb h2) (lcs_le_right y _ b).1
      | cons_cons _ h2 => rw [lcs_same]; simpa using ih h2
theorem lcs_self (a : List α) : lcs a a = a.length := by
  induction a with
  | nil => rfl
  | cons x a ih => rw [lcs_same, ih]; simp
/-- Places of a longest common list: the first lines where they are alike; else the first list's line is left out, if that costs nothing. -/
def pairsI (x : α) (a : List α) (i : Nat) (f : List α → Nat → List (Nat × Nat)) : List α → Nat → List (Nat × Nat)
  | [], _ => []
  | y :: b, j => if x = y then (i, j) :: f b (j + 1) else if lcs a (y :: b) = lcs (x :: a) (y :: b) then f (y :: b) j else pairsI x a i f b (j + 1)
def pairsN : List α → Nat → List α → Nat → List (Nat × Nat)
  | [], _ => fun _ _ => []
  | x :: a, i => pairsI x a i (pairsN a (i + 1))
theorem pairsN_nil (i : Nat) (b : List α) (j : Nat) : pairsN [] i b j = [] := rfl
theorem pairsN_none (a : List α) (i j : Nat) : pairsN a i [] j = [] := by cases a <;> rfl
theorem pairsN_same (x : α) (a b : List α) (i j : Nat) : pairsN (x :: a) i (x :: b) j = (i, j) :: pairsN a (i + 1) b (j + 1) := by
  show (if x = x then _ else _) = _
  rw [if_pos rfl]
theorem pairsN_down {x y : α} {a b : List α} (h : x ≠ y) (h2 : lcs a (y :: b) = lcs (x :: a) (y :: b)) (i j : Nat) : pairsN (x :: a) i (y :: b) j = pairsN a (i + 1) (y :: b) j := by
  show (if x = y then _ else if _ then _ else _) = _
  rw [if_neg h, if_pos h2]
theorem pairsN_right {x y : α} {a b : List α} (h : x ≠ y) (h2 : lcs a (y :: b) ≠ lcs (x :: a) (y :: b)) (i j : Nat) : pairsN (x :: a) i (y :: b) j = pairsN (x :: a) i b (j + 1) := by
  show (if x = y then _ else if _ then _ else _) = _
  rw [if_neg h, if_neg h2]; rfl
theorem pairsN_len (a : List α) : ∀ (b : List α) (i j : Nat), (pairsN a i b j).length = lcs a b := by
  induction a with
  | nil => intro b i j; rfl
  | cons x a ih =>
    intro b
    induction b with
    | nil => intro i j; rw [pairsN_none, lcs_none]; rfl
    | cons y b ihb =>
      intro i j
      by_cases h : x = y
      · subst h; rw [pairsN_same, lcs_same, List.length_cons, ih]
      · by_cases h2 : lcs a (y :: b) = lcs (x :: a) (y :: b)
        · rw [pairsN_down h h2, ih, h2]
        · rw [pairsN_right h h2, ihb]
          have h3 := lcs_ne h a b
          rw [Nat.max_def] at h3
          split at h3
          · exact h3.symm
          · exact absurd h3.symm h2
/-- Pairs of places, one behind the other, at which two lists are alike. -/
def PairsOk (a b : List α) : Nat → Nat → List (Nat × Nat) → Prop
  | _, _, [] => True
  | i, j, p :: r => i ≤ p.1 ∧ j ≤ p.2 ∧ p.1 < a.length ∧ p.2 < b.length ∧ a[p.1]? = b[p.2]? ∧ PairsOk a b (p.1 + 1) (p.2 + 1) r
omit [DecidableEq α] in
theorem PairsOk.lower {a b : List α} {i j i' j' : Nat} (hi : i' ≤ i) (hj : j' ≤ j) : ∀ {P : List (Nat × Nat)}, PairsOk a b i j P → PairsOk a b i' j' P
  | [], _ => trivial
  | _ :: _, ⟨h1, h2, h3⟩ => ⟨Nat.le_trans hi h1, Nat.le_trans hj h2, h3⟩
theorem pairs_ok_at (a0 b0 a : List α) : ∀ (b : List α) (i j : Nat), a0.drop i = a → b0.drop j = b → PairsOk a0 b0 i j (pairsN a i b j) := by
  induction a with
  | nil => intro b i j _ _; trivial
  | cons x a ih =>
    intro b
    induction b with
    | nil => intro i j _ _; rw [pairsN_none]; trivial
    | cons y b ihb =>
      intro i j hi hj
      have hil : i < a0.length := by
        rcases Nat.lt_or_ge i a0.length with h | h
        · exact h
        · rw [List.drop_eq_nil_of_le h] at hi; cases hi
      have hjl : j < b0.length := by
        rcases Nat.lt_or_ge j b0.length with h | h
        · exact h
        · rw [List.drop_eq_nil_of_le h] at hj; cases hj
      have hi1 : a0.drop (i + 1) = a := by rw [← List.drop_drop, hi]; rfl
      have hj1 : b0.drop (j + 1) = b := by rw [← List.drop_drop, hj]; rfl
      have hx : a0[i]? = some x := by have := congrArg (fun l => l[0]?) hi; simpa using this
      have hy : b0[j]? = some y := by have := congrArg (fun l => l[0]?) hj; simpa using this
      by_cases h : x = y
      · subst h
        rw [pairsN_same]
        exact ⟨Nat.le_refl _, Nat.le_refl _, hil, hjl, by rw [hx, hy], ih b (i + 1) (j + 1) hi1 hj1⟩
      · by_cases h2 : lcs a (y :: b) = lcs (x :: a) (y :: b)
        · rw [pairsN_down h h2]
          exact (ih (y :: b) (i + 1) j hi1 hj).lower (Nat.le_succ i) (Nat.le_refl j)
        · rw [pairsN_right h h2]
          exact (ihb i (j + 1) hi hj1).lower (Nat.le_refl i) (Nat.le_succ j)
theorem pairs_ok (a b : List α) : PairsOk a b 0 0 (pairsN a 0 b 0) := pairs_ok_at a b a b 0 0 rfl rfl
theorem lcs_map {β : Type} [DecidableEq β] (f : α → β) (a : List α) : ∀ b : List α, (∀ x ∈ a, ∀ y ∈ b, f x = f y → x = y) → lcs (a.map f) (b.map f) = lcs a b := by
  induction a with
  | nil => intro b _; rfl
  | cons x a ih =>
    intro b
    induction b with
    | nil => intro _; rw [lcs_none]; exact lcs_none _
    | cons y b ihb =>
      intro h
      have e1 := ih b (fun u hu v hv => h u (List.mem_cons_of_mem _ hu) v (List.mem_cons_of_mem _ hv))
      have e2 := ih (y :: b) (fun u hu v hv => h u (List.mem_cons_of_mem _ hu) v hv)
      have e3 := ihb (fun u hu v hv => h u hu v (List.mem_cons_of_mem _ hv))
      simp only [List.map_cons] at e2 e3 ⊢
      by_cases hxy : x = y
      · subst hxy; rw [lcs_same, lcs_same, e1]
      · have hf : f x ≠ f y := fun e => hxy (h x List.mem_cons_self y List.mem_cons_self e)
        rw [lcs_ne hf, lcs_ne hxy, e2, e3]
theorem pairsN_map {β : Type} [DecidableEq β] (f : α → β) (a : List α) : ∀ (b : List α) (i j : Nat), (∀ x ∈ a, ∀ y ∈ b, f x = f y → x = y) → pairsN (a.map f) i (b.map f) j = pairsN a i b j := by
  induction a with
  | nil => intro b i j _; rfl
  | cons x a ih =>
    intro b
    induction b with
    | nil => intro i j _; rw [pairsN_none]; exact pairsN_none _ _ _
    | cons y b ihb =>
      intro i j h
      have h1 : ∀ u ∈ a, ∀ v ∈ b, f u = f v → u = v := fun u hu v hv => h u (List.mem_cons_of_mem _ hu) v (List.mem_cons_of_mem _ hv)
      have h2 : ∀ u ∈ a, ∀ v ∈ y :: b, f u = f v → u = v := fun u hu v hv => h u (List.mem_cons_of_mem _ hu) v hv
      have h3 : ∀ u ∈ x :: a, ∀ v ∈ b, f u = f v → u = v := fun u hu v hv => h u hu v (List.mem_cons_of_mem _ hv)
      have e0 := lcs_map f (x :: a) (y :: b) h
      have e1 := lcs_map f a (y :: b) h2
      have e2 := ih (y :: b) (i + 1) j h2
      have e3 := ihb i (j + 1) h3
      simp only [List.map_cons] at e0 e1 e2 e3 ⊢
      by_cases hxy : x = y
      · subst hxy; rw [pairsN_same, pairsN_same, ih b _ _ h1]
      · have hf : f x ≠ f y := fun e => hxy (h x List.mem_cons_self y List.mem_cons_self e)
        by_cases hl : lcs a (y :: b) = lcs (x :: a) (y :: b)
        · rw [pairsN_down hf (by rw [e0, e1]; exact hl), pairsN_down hxy hl, e2]
        · rw [pairsN_right hf (by rw [e0, e1]; exact hl), pairsN_right hxy hl, e3]
/-- The pairs of the first lines of two lists. -/
def diag : Nat → Nat → Nat → List (Nat × Nat)
  | 0, _, _ => []
  | n + 1, i, j => (i, j) :: diag n (i + 1) (j + 1)
theorem pairsN_head (h a b : List α) : ∀ i j : Nat, pairsN (h ++ a) i (h ++ b) j = diag h.length i j ++ pairsN a (i + h.length) b (j + h.length) := by
  induction h with
  | nil => intro i j; rfl
  | cons x h ih =>
    intro i j
    rw [List.cons_append, List.cons_append, pairsN_same, ih]
    show _ :: (_ ++ _) = _ :: (_ ++ _)
    rw [show i + 1 + h.length = i + (x :: h).length from by simp; omega, show j + 1 + h.length = j + (x :: h).length from by simp; omega]
theorem pairsN_shift (a : List α) : ∀ (b : List α) (i j m n : Nat), pairsN a (i + m) b (j + n) = (pairsN a i b j).map fun p => (p.1 + m, p.2 + n) := by
  induction a with
  | nil => intro b i j m n; rfl
  | cons x a ih =>
    intro b
    induction b with
    | nil => intro i j m n; rw [pairsN_none, pairsN_none]; rfl
    | cons y b ihb =>
      intro i j m n
      by_cases h : x = y
      · subst h
        rw [pairsN_same, pairsN_same, List.map_cons, ← ih, Nat.add_right_comm i m 1, Nat.add_right_comm j n 1]
      · by_cases h2 : lcs a (y :: b) = lcs (x :: a) (y :: b)
        · rw [pairsN_down h h2, pairsN_down h h2, ← ih, Nat.add_right_comm i m 1]
        · rw [pairsN_right h h2, pairsN_right h h2, ← ihb, Nat.add_right_comm j n 1]
end
end Go.Proofs.Ytfiogjdjcocbnaa
