/- The text that parts make; where one side is the base; changes on either side of a line. -/
import Derived.Test.YtfiogjdjcocbnaaWeavA
namespace Go.Proofs.Ytfiogjdjcocbnaa

section
variable {α : Type} [DecidableEq α]
theorem lcs_nil_tail (z : α) (b : List α) : lcs [z] (b ++ [z]) = 1 := by
  induction b with
  | nil => rw [List.nil_append, lcs_same]; rfl
  | cons y b ih =>
    by_cases h : z = y
    · subst h; rw [List.cons_append, lcs_same]; rfl
    · rw [List.cons_append, lcs_ne h, ih]; rfl
theorem lcs_tail_one (z : α) (a : List α) : ∀ b : List α, lcs (a ++ [z]) (b ++ [z]) = lcs a b + 1 := by
  induction a with
  | nil => intro b; rw [List.nil_append, lcs_nil_tail]; rfl
  | cons x a ih =>
    intro b
    induction b with
    | nil => rw [lcs_symm, List.nil_append, lcs_nil_tail, lcs_none]
    | cons y b ihb =>
      by_cases h : x = y
      · subst h; rw [List.cons_append, List.cons_append, lcs_same, lcs_same, ih]
      · have e1 := ih (y :: b)
        rw [List.cons_append] at e1 ihb
        rw [List.cons_append, List.cons_append, lcs_ne h, lcs_ne h, e1, ihb]
        rw [Nat.max_def, Nat.max_def]
        split <;> split <;> omega
/-- What both lists end with is common. -/
theorem lcs_tail (c : List α) : ∀ a b : List α, lcs (a ++ c) (b ++ c) = lcs a b + c.length := by
  induction c with
  | nil => intro a b; simp
  | cons z c ih =>
    intro a b
    have := ih (a ++ [z]) (b ++ [z])
    rw [List.append_assoc, List.append_assoc] at this
    rw [show a ++ z :: c = a ++ ([z] ++ c) from rfl, show b ++ z :: c = b ++ ([z] ++ c) from rfl, this, lcs_tail_one]
    simp; omega
/-- Where both lists end with the same lines, the first of which stands nowhere ahead, this is paired with itself. -/
theorem pairs_tail (m : α) (c a : List α) : ∀ (b : List α) (i j : Nat), m ∉ a → m ∉ b →
    pairsN (a ++ m :: c) i (b ++ m :: c) j = pairsN a i b j ++ (i + a.length, j + b.length) :: diag c.length (i + a.length + 1) (j + b.length + 1) := by
  have hd : ∀ i j : Nat, pairsN c i c j = diag c.length i j := fun i j => by
    have := pairsN_head c [] [] i j
    rw [List.append_nil] at this
    rw [this]; simp [pairsN_nil]
  induction a with
  | nil =>
    intro b
    induction b with
    | nil => intro i j _ _; simp only [List.nil_append, List.length_nil, Nat.add_zero]; rw [pairsN_same, hd]; rfl
    | cons y b ihb =>
      intro i j ha hb
      have hy : m ≠ y := fun e => hb (e ▸ List.mem_cons_self)
      have hb2 : m ∉ b := fun e => hb (List.mem_cons_of_mem _ e)
      have h1 : lcs c (y :: (b ++ m :: c)) ≠ lcs (m :: c) (y :: (b ++ m :: c)) := by
        have e := lcs_tail (m :: c) [] (y :: b)
        rw [List.nil_append, List.cons_append] at e
        have := (lcs_len c (y :: (b ++ m :: c))).1
        rw [e, lcs_nil]; simp; omega
      rw [List.nil_append, List.cons_append, pairsN_right hy h1]
      have := ihb i (j + 1) ha hb2
      rw [List.nil_append] at this
      rw [this, pairsN_nil, pairsN_nil]
      simp only [List.length_cons, List.nil_append, List.length_nil]
      rw [show j + 1 + b.length = j + (b.length + 1) from by omega]
  | cons x a ih =>
    intro b
    induction b with
    | nil =>
      intro i j ha hb
      have hx : x ≠ m := fun e => ha (e ▸ List.mem_cons_self)
      have ha2 : m ∉ a := fun e => ha (List.mem_cons_of_mem _ e)
      have h1 : lcs (a ++ m :: c) (m :: c) = lcs (x :: (a ++ m :: c)) (m :: c) := by
        have e1 := lcs_tail (m :: c) a []
        have e2 := lcs_tail (m :: c) (x :: a) []
        rw [List.nil_append] at e1 e2
        rw [List.cons_append] at e2
        rw [e1, e2, lcs_none, lcs_none]
      rw [List.nil_append, List.cons_append, pairsN_down hx h1]
      have := ih [] (i + 1) j ha2 hb
      rw [List.nil_append] at this
      rw [this, pairsN_none, pairsN_none]
      simp only [List.length_cons, List.nil_append, List.length_nil]
      rw [show i + 1 + a.length = i + (a.length + 1) from by omega]
    | cons y b ihb =>
      intro i j ha hb
      have ha2 : m ∉ a := fun e => ha (List.mem_cons_of_mem _ e)
      have hb2 : m ∉ b := fun e => hb (List.mem_cons_of_mem _ e)
      by_cases h : x = y
      · subst h
        rw [List.cons_append, List.cons_append, pairsN_same, pairsN_same, ih b _ _ ha2 hb2]
        simp only [List.length_cons, List.cons_append]
        rw [show i + 1 + a.length = i + (a.length + 1) from by omega, show j + 1 + b.length = j + (b.length + 1) from by omega]
      · have e1 := lcs_tail (m :: c) a (y :: b)
        have e2 := lcs_tail (m :: c) (x :: a) (y :: b)
        rw [List.cons_append] at e1 e2
        rw [List.cons_append] at e2
        have f1 := ih (y :: b) (i + 1) j ha2 hb
        have f2 := ihb i (j + 1) ha hb2
        rw [List.cons_append] at f1 f2
        rw [List.cons_append, List.cons_append]
        by_cases h2 : lcs a (y :: b) = lcs (x :: a) (y :: b)
        · rw [pairsN_down h (by rw [e1, e2, h2]), pairsN_down h h2, f1]
          simp only [List.length_cons]
          rw [show i + 1 + a.length = i + (a.length + 1) from by omega]
        · rw [pairsN_right h (by rw [e1, e2]; omega), pairsN_right h h2, f2]
          simp only [List.length_cons]
          rw [show j + 1 + b.length = j + (b.length + 1) from by omega]
/-- The first places of pairs, all from a place on, ahead of another. -/
def FirstIn (i n : Nat) (o : List (Nat × Nat)) : Prop := ∀ p ∈ o, i ≤ p.1 ∧ p.1 < n
theorem pairs_in (a : List α) : ∀ (b : List α) (i j : Nat), ∀ p ∈ pairsN a i b j, i ≤ p.1 ∧ p.1 < i + a.length := by
  induction a with
  | nil => intro b i j p hp; cases hp
  | cons x a ih =>
    intro b
    induction b with
    | nil => intro i j p hp; rw [pairsN_none] at hp; cases hp
    | cons y b ihb =>
      intro i j p hp
      rw [List.length_cons]
      by_cases h : x = y
      · subst h
        rw [pairsN_same] at hp
        rcases List.mem_cons.1 hp with rfl | hp
        · exact ⟨Nat.le_refl _, by show i < _; omega⟩
        · have := ih _ _ _ p hp; omega
      · by_cases h2 : lcs a (y :: b) = lcs (x :: a) (y :: b)
        · rw [pairsN_down h h2] at hp; have := ih _ _ _ p hp; omega
        · rw [pairsN_right h h2] at hp
          have := ihb _ _ p hp
          rw [List.length_cons] at this; exact this
theorem diag_in (n : Nat) : ∀ i j : Nat, ∀ p ∈ diag n i j, i ≤ p.1 ∧ p.1 < i + n := by
  induction n with
  | zero => intro i j p hp; cases hp
  | succ n ih =>
    intro i j p hp
    rcases List.mem_cons.1 hp with rfl | hp
    · exact ⟨Nat.le_refl _, by show i < _; omega⟩
    · have := ih _ _ p hp; omega
omit [DecidableEq α] in
/-- Of places of which one list has each, those of the other stand fast. -/
theorem fast_diag (o : List (Nat × Nat)) : ∀ (n i k : Nat), (∀ p ∈ o, i ≤ p.1 ∧ p.1 < i + n) → (o.Pairwise fun p q => p.1 < q.1) → fastN o (diag n i k) = o.map fun p => (p.1, p.2, k + (p.1 - i)) := by
  induction o with
  | nil => intro n i k _ _; rfl
  | cons o os ih =>
    intro n
    induction n with
    | zero => intro i k h _; have := h o List.mem_cons_self; omega
    | succ n ihn =>
      intro i k h hp
      obtain ⟨hp1, hp2⟩ := List.pairwise_cons.1 hp
      have h0 := h o List.mem_cons_self
      show fastN (o :: os) ((i, k) :: diag n (i + 1) (k + 1)) = _
      by_cases e : o.1 = i
      · rw [fastN_eq (show o.1 = (i, k).1 from e), ih n (i + 1) (k + 1) (fun p hp => ⟨by have := hp1 p hp; omega, by have := (h p (List.mem_cons_of_mem _ hp)).2; omega⟩) hp2, List.map_cons, e]
        simp only [Nat.sub_self, Nat.add_zero]
        congr 1
        apply List.map_congr_left
        intro p hp
        have := hp1 p hp
        rw [show k + 1 + (p.1 - (i + 1)) = k + (p.1 - i) from by omega]
      · rw [fastN_gt (show (i, k).1 < o.1 from by show i < o.1; omega), ihn (i + 1) (k + 1) (fun p hp => by
          have := h p hp
          rcases List.mem_cons.1 hp with rfl | hp
          · omega
          · have := hp1 p hp; omega) hp]
        apply List.map_congr_left
        intro p hp
        have : i + 1 ≤ p.1 := by
          rcases List.mem_cons.1 hp with rfl | hp
          · omega
          · have := hp1 p hp; omega
        rw [show k + 1 + (p.1 - (i + 1)) = k + (p.1 - i) from by omega]
theorem pairs_sorted (a : List α) : ∀ (b : List α) (i j : Nat), (pairsN a i b j).Pairwise fun p q => p.1 < q.1 := by
  induction a with
  | nil => intro b i j; exact List.Pairwise.nil
  | cons x a ih =>
    intro b
    induction b with
    | nil => intro i j; rw [pairsN_none]; exact List.Pairwise.nil
    | cons y b ihb =>
      intro i j
      by_cases h : x = y
      · subst h
        rw [pairsN_same]
        exact List.pairwise_cons.2 ⟨fun p hp => by have := (pairs_in _ _ _ _ p hp).1; exact this, ih _ _ _⟩
      · by_cases h2 : lcs a (y :: b) = lcs (x :: a) (y :: b)
        · rw [pairsN_down h h2]; exact ih _ _ _
        · rw [pairsN_right h h2]; exact ihb _ _
/-- Both lists cut at one first place. -/
theorem fast_cut {c u v : Nat} (o2 t2 : List (Nat × Nat)) (o1 : List (Nat × Nat)) : ∀ t1 : List (Nat × Nat), (∀ p ∈ o1, p.1 < c) → (∀ p ∈ t1, p.1 < c) →
    fastN (o1 ++ (c, u) :: o2) (t1 ++ (c, v) :: t2) = fastN o1 t1 ++ (c, u, v) :: fastN o2 t2 := by
  induction o1 with
  | nil =>
    intro t1
    induction t1 with
    | nil => intro _ _; exact fastN_eq (o := (c, u)) (t := (c, v)) rfl _ _
    | cons t t1 iht =>
      intro ho ht
      have h := ht t List.mem_cons_self
      have := iht ho (fun p hp => ht p (List.mem_cons_of_mem _ hp))
      rw [List.nil_append] at this ⊢
      rw [List.cons_append, fastN_gt (show t.1 < (c, u).1 from h), this]; rfl
  | cons o o1 ih =>
    intro t1
    induction t1 with
    | nil =>
      intro ho ht
      have h := ho o List.mem_cons_self
      have := ih [] (fun p hp => ho p (List.mem_cons_of_mem _ hp)) ht
      rw [List.nil_append] at this ⊢
      rw [List.cons_append, fastN_lt (show o.1 < (c, v).1 from h), this, fastN_none, fastN_none]
    | cons t t1 iht =>
      intro ho ht
      have ho2 := fun p hp => ho p (List.mem_cons_of_mem _ hp)
      have ht2 := fun p hp => ht p (List.mem_cons_of_mem _ hp)
      rw [List.cons_append, List.cons_append]
      rcases Nat.lt_trichotomy o.1 t.1 with h | h | h
      · rw [fastN_lt h, fastN_lt h]; exact ih (t :: t1) ho2 ht
      · rw [fastN_eq h, fastN_eq h, ih t1 ho2 ht2]; rfl
      · rw [fastN_gt h, fastN_gt h]; exact iht ho ht2
end
end Go.Proofs.Ytfiogjdjcocbnaa
