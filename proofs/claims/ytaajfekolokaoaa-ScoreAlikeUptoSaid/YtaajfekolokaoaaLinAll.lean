/- Longest common lists of two lists: how long they are, one of them place by place. Hunks: what must be done to one list to make it another one; done, and undone. The walks of slices.Clone, slices.Equal at texts; of the reference's Same. Texts cut into lines: the walks of Split, Join, IsText, and of the reference's. The walks of Join, and of the reference's Split. Numbers for lines, the same for those that are alike: the walks of numbers and of its inner function. The table of two lists of numbers: the walk of its cell; what it holds. The walk of common: the table of two lists of numbers. The walks of walk and Pairs. The walk of Pairs; rows of records that hold slices of texts. The walk of Diff. The walks of fit and Patch. The walk of Patch. The walk of Back. Of two texts a line is another one: the walk of the laws' awake. The walk of the law LinesSplit. -/
import Derived.RowKit
import Derived.Test.YtaajfekolokaoaaJnA
import Derived.Deep.QuietTactic
import Derived.BigQuiet
import Derived.Lib.IndexLaws
import Derived.Maps.OwnSet
import Derived.Maps.Views
import Derived.Carry
import Derived.StringKeys
import Derived.Test.YtaajfekolokaoaaDraw
import Derived.IntWalk
import Derived.Test.YtaajfekolokaoaaStep
import Derived.Deep.DrawnRows
import Derived.Deep.Cut
import Derived.Lib.SlBytesConst
namespace Go.Proofs.Ytaajfekolokaoaa

section
variable {α : Type} [DecidableEq α]
def lcsI (x : α) (f : List α → Nat) : List α → Nat
  | [] => 0
  | y :: b => if x = y then f b + 1 else max (f (y :: b)) (lcsI x f b)
/-- How long a longest list is that two lists have in common. -/
def lcs : List α → List α → Nat
  | [] => fun _ => 0
  | x :: a => lcsI x (lcs a)
theorem lcs_nil (b : List α) : lcs [] b = 0 := rfl
theorem lcs_none (a : List α) : lcs a [] = 0 := by cases a <;> rfl
theorem lcs_same {x : α} (a b : List α) : lcs (x :: a) (x :: b) = lcs a b + 1 := by
  show (if x = x then _ else _) = _
  rw [if_pos rfl]
theorem lcs_ne {x y : α} (h : x ≠ y) (a b : List α) : lcs (x :: a) (y :: b) = max (lcs a (y :: b)) (lcs (x :: a) b) := by
  show (if x = y then _ else _) = _
  rw [if_neg h]; rfl
theorem lcs_bounds (a : List α) : ∀ b : List α, (∀ x : α, lcs a b ≤ lcs (x :: a) b ∧ lcs (x :: a) b ≤ lcs a b + 1) ∧ (∀ y : α, lcs a b ≤ lcs a (y :: b) ∧ lcs a (y :: b) ≤ lcs a b + 1) := by
  induction a with
  | nil =>
    intro b
    refine ⟨fun x => ⟨Nat.zero_le _, ?_⟩, fun y => ⟨Nat.zero_le _, Nat.zero_le _⟩⟩
    induction b with
    | nil => exact Nat.zero_le _
    | cons z b ih =>
      by_cases h : x = z
      · subst h; rw [lcs_same]; exact Nat.le_refl _
      · rw [lcs_ne h]; exact Nat.max_le.2 ⟨Nat.zero_le _, ih⟩
  | cons w a iha =>
    intro b
    induction b with
    | nil =>
      refine ⟨fun x => ?_, fun y => ⟨Nat.zero_le _, ?_⟩⟩
      · rw [lcs_none, lcs_none]; exact ⟨Nat.le_refl _, Nat.zero_le _⟩
      · rw [lcs_none]
        by_cases h : w = y
        · subst h; rw [lcs_same, lcs_none]; exact Nat.le_refl _
        · rw [lcs_ne h, lcs_none]
          have := ((iha []).2 y).2
          rw [lcs_none] at this
          exact Nat.max_le.2 ⟨this, Nat.zero_le _⟩
    | cons z b ihb =>
      have P : ∀ y : α, lcs (w :: a) (z :: b) ≤ lcs (w :: a) (y :: z :: b) ∧ lcs (w :: a) (y :: z :: b) ≤ lcs (w :: a) (z :: b) + 1 := by
        intro y
        have h1 := (iha (z :: b)).1 w
        have h2 := (iha (z :: b)).2 y
        by_cases h : w = y
        · subst h; rw [lcs_same]; omega
        · rw [lcs_ne h]
          have h3 := (iha (y :: z :: b)).1 w
          rw [Nat.max_def]
          split <;> omega
      refine ⟨fun x => ?_, P⟩
      have h1 := (iha b).1 w
      have h2 := (ihb.1 x)
      have h3 := (ihb.2 z)
      have h4 := (iha (z :: b)).1 w
      have h5 := (iha b).2 z
      by_cases h : x = z
      · subst h; rw [lcs_same]; omega
      · rw [lcs_ne h, Nat.max_def]
        split <;> omega
theorem lcs_le_left (x : α) (a b : List α) : lcs a b ≤ lcs (x :: a) b ∧ lcs (x :: a) b ≤ lcs a b + 1 := (lcs_bounds a b).1 x
theorem lcs_le_right (y : α) (a b : List α) : lcs a b ≤ lcs a (y :: b) ∧ lcs a (y :: b) ≤ lcs a b + 1 := (lcs_bounds a b).2 y
/-- The greatest of all three. -/
theorem lcs_best (x y : α) (a b : List α) : lcs (x :: a) (y :: b) = if x = y then lcs a b + 1 else max (lcs a (y :: b)) (lcs (x :: a) b) := rfl
theorem lcs_len (a : List α) : ∀ b : List α, lcs a b ≤ a.length ∧ lcs a b ≤ b.length := by
  induction a with
  | nil => intro b; exact ⟨Nat.zero_le _, Nat.zero_le _⟩
  | cons x a ih =>
    intro b
    refine ⟨by have := (lcs_le_left x a b).2; have := (ih b).1; simp; omega, ?_⟩
    induction b with
    | nil => rw [lcs_none]; exact Nat.zero_le _
    | cons y b ihb => have := (lcs_le_right y (x :: a) b).2; simp; omega
theorem lcs_symm (a : List α) : ∀ b : List α, lcs a b = lcs b a := by
  induction a with
  | nil => intro b; rw [lcs_none, lcs_nil]
  | cons x a ih =>
    intro b
    induction b with
    | nil => rw [lcs_none, lcs_nil]
    | cons y b ihb =>
      by_cases h : x = y
      · subst h; rw [lcs_same, lcs_same, ih]
      · rw [lcs_ne h, lcs_ne (fun e => h e.symm), ihb, ih, Nat.max_comm]
theorem sub_lcs {s a b : List α} (h1 : s.Sublist a) : s.Sublist b → s.length ≤ lcs a b := by
  induction h1 generalizing b with
  | slnil => intro _; exact Nat.zero_le _
  | cons x _ ih => intro h2; exact Nat.le_trans (ih h2) (lcs_le_left x _ b).1
  | @cons_cons s a x _ ih =>
    intro h2
    induction b with
    | nil => cases h2
    | cons y b ihb =>
      cases h2 with
      | cons _ h2 => exact Nat.le_trans (ihb h2) (lcs_le_right y _ b).1
      | cons_cons _ h2 => rw [lcs_same]; simpa using ih h2
theorem lcs_self (a : List α) : lcs a a = a.length := by
  induction a with
  | nil => rfl
  | cons x a ih => rw [lcs_same, ih]; simp
/-- Places of a longest common list: the first lines where they are alike; else the first list's line is left out, if that costs nothing. -/
def pairsI (x : α) (a : List α) (i : Nat) (f : List α → Nat → List (Nat × Nat)) : List α → Nat → List (Nat × Nat)
  | [], _ => []
  | y :: b, j => if x = y then (i, j) :: f b (j + 1) else if lcs a (y :: b) = lcs (x :: a) (y :: b) then f (y :: b) j else pairsI x a i f b (j + 1)
def pairsN : List α → Nat → List α → Nat → List (Nat × Nat)
  | [], _ => fun _ _ => []
  | x :: a, i => pairsI x a i (pairsN a (i + 1))
theorem pairsN_nil (i : Nat) (b : List α) (j : Nat) : pairsN [] i b j = [] := rfl
theorem pairsN_none (a : List α) (i j : Nat) : pairsN a i [] j = [] := by cases a <;> rfl
theorem pairsN_same (x : α) (a b : List α) (i j : Nat) : pairsN (x :: a) i (x :: b) j = (i, j) :: pairsN a (i + 1) b (j + 1) := by
  show (if x = x then _ else _) = _
  rw [if_pos rfl]
theorem pairsN_down {x y : α} {a b : List α} (h : x ≠ y) (h2 : lcs a (y :: b) = lcs (x :: a) (y :: b)) (i j : Nat) : pairsN (x :: a) i (y :: b) j = pairsN a (i + 1) (y :: b) j := by
  show (if x = y then _ else if _ then _ else _) = _
  rw [if_neg h, if_pos h2]
theorem pairsN_right {x y : α} {a b : List α} (h : x ≠ y) (h2 : lcs a (y :: b) ≠ lcs (x :: a) (y :: b)) (i j : Nat) : pairsN (x :: a) i (y :: b) j = pairsN (x :: a) i b (j + 1) := by
  show (if x = y then _ else if _ then _ else _) = _
  rw [if_neg h, if_neg h2]; rfl
theorem pairsN_len (a : List α) : ∀ (b : List α) (i j : Nat), (pairsN a i b j).length = lcs a b := by
  induction a with
  | nil => intro b i j; rfl
  | cons x a ih =>
    intro b
    induction b with
    | nil => intro i j; rw [pairsN_none, lcs_none]; rfl
    | cons y b ihb =>
      intro i j
      by_cases h : x = y
      · subst h; rw [pairsN_same, lcs_same, List.length_cons, ih]
      · by_cases h2 : lcs a (y :: b) = lcs (x :: a) (y :: b)
        · rw [pairsN_down h h2, ih, h2]
        · rw [pairsN_right h h2, ihb]
          have h3 := lcs_ne h a b
          rw [Nat.max_def] at h3
          split at h3
          · exact h3.symm
          · exact absurd h3.symm h2
/-- Pairs of places, one behind the other, at which two lists are alike. -/
def PairsOk (a b : List α) : Nat → Nat → List (Nat × Nat) → Prop
  | _, _, [] => True
  | i, j, p :: r => i ≤ p.1 ∧ j ≤ p.2 ∧ p.1 < a.length ∧ p.2 < b.length ∧ a[p.1]? = b[p.2]? ∧ PairsOk a b (p.1 + 1) (p.2 + 1) r
omit [DecidableEq α] in
theorem PairsOk.lower {a b : List α} {i j i' j' : Nat} (hi : i' ≤ i) (hj : j' ≤ j) : ∀ {P : List (Nat × Nat)}, PairsOk a b i j P → PairsOk a b i' j' P
  | [], _ => trivial
  | _ :: _, ⟨h1, h2, h3⟩ => ⟨Nat.le_trans hi h1, Nat.le_trans hj h2, h3⟩
theorem pairs_ok_at (a0 b0 a : List α) : ∀ (b : List α) (i j : Nat), a0.drop i = a → b0.drop j = b → PairsOk a0 b0 i j (pairsN a i b j) := by
  induction a with
  | nil => intro b i j _ _; trivial
  | cons x a ih =>
    intro b
    induction b with
    | nil => intro i j _ _; rw [pairsN_none]; trivial
    | cons y b ihb =>
      intro i j hi hj
      have hil : i < a0.length := by
        rcases Nat.lt_or_ge i a0.length with h | h
        · exact h
        · rw [List.drop_eq_nil_of_le h] at hi; cases hi
      have hjl : j < b0.length := by
        rcases Nat.lt_or_ge j b0.length with h | h
        · exact h
        · rw [List.drop_eq_nil_of_le h] at hj; cases hj
      have hi1 : a0.drop (i + 1) = a := by rw [← List.drop_drop, hi]; rfl
      have hj1 : b0.drop (j + 1) = b := by rw [← List.drop_drop, hj]; rfl
      have hx : a0[i]? = some x := by have := congrArg (fun l => l[0]?) hi; simpa using this
      have hy : b0[j]? = some y := by have := congrArg (fun l => l[0]?) hj; simpa using this
      by_cases h : x = y
      · subst h
        rw [pairsN_same]
        exact ⟨Nat.le_refl _, Nat.le_refl _, hil, hjl, by rw [hx, hy], ih b (i + 1) (j + 1) hi1 hj1⟩
      · by_cases h2 : lcs a (y :: b) = lcs (x :: a) (y :: b)
        · rw [pairsN_down h h2]
          exact (ih (y :: b) (i + 1) j hi1 hj).lower (Nat.le_succ i) (Nat.le_refl j)
        · rw [pairsN_right h h2]
          exact (ihb i (j + 1) hi hj1).lower (Nat.le_refl i) (Nat.le_succ j)
theorem pairs_ok (a b : List α) : PairsOk a b 0 0 (pairsN a 0 b 0) := pairs_ok_at a b a b 0 0 rfl rfl
theorem lcs_map {β : Type} [DecidableEq β] (f : α → β) (a : List α) : ∀ b : List α, (∀ x ∈ a, ∀ y ∈ b, f x = f y → x = y) → lcs (a.map f) (b.map f) = lcs a b := by
  induction a with
  | nil => intro b _; rfl
  | cons x a ih =>
    intro b
    induction b with
    | nil => intro _; rw [lcs_none]; exact lcs_none _
    | cons y b ihb =>
      intro h
      have e1 := ih b (fun u hu v hv => h u (List.mem_cons_of_mem _ hu) v (List.mem_cons_of_mem _ hv))
      have e2 := ih (y :: b) (fun u hu v hv => h u (List.mem_cons_of_mem _ hu) v hv)
      have e3 := ihb (fun u hu v hv => h u hu v (List.mem_cons_of_mem _ hv))
      simp only [List.map_cons] at e2 e3 ⊢
      by_cases hxy : x = y
      · subst hxy; rw [lcs_same, lcs_same, e1]
      · have hf : f x ≠ f y := fun e => hxy (h x List.mem_cons_self y List.mem_cons_self e)
        rw [lcs_ne hf, lcs_ne hxy, e2, e3]
theorem pairsN_map {β : Type} [DecidableEq β] (f : α → β) (a : List α) : ∀ (b : List α) (i j : Nat), (∀ x ∈ a, ∀ y ∈ b, f x = f y → x = y) → pairsN (a.map f) i (b.map f) j = pairsN a i b j := by
  induction a with
  | nil => intro b i j _; rfl
  | cons x a ih =>
    intro b
    induction b with
    | nil => intro i j _; rw [pairsN_none]; exact pairsN_none _ _ _
    | cons y b ihb =>
      intro i j h
      have h1 : ∀ u ∈ a, ∀ v ∈ b, f u = f v → u = v := fun u hu v hv => h u (List.mem_cons_of_mem _ hu) v (List.mem_cons_of_mem _ hv)
      have h2 : ∀ u ∈ a, ∀ v ∈ y :: b, f u = f v → u = v := fun u hu v hv => h u (List.mem_cons_of_mem _ hu) v hv
      have h3 : ∀ u ∈ x :: a, ∀ v ∈ b, f u = f v → u = v := fun u hu v hv => h u hu v (List.mem_cons_of_mem _ hv)
      have e0 := lcs_map f (x :: a) (y :: b) h
      have e1 := lcs_map f a (y :: b) h2
      have e2 := ih (y :: b) (i + 1) j h2
      have e3 := ihb i (j + 1) h3
      simp only [List.map_cons] at e0 e1 e2 e3 ⊢
      by_cases hxy : x = y
      · subst hxy; rw [pairsN_same, pairsN_same, ih b _ _ h1]
      · have hf : f x ≠ f y := fun e => hxy (h x List.mem_cons_self y List.mem_cons_self e)
        by_cases hl : lcs a (y :: b) = lcs (x :: a) (y :: b)
        · rw [pairsN_down hf (by rw [e0, e1]; exact hl), pairsN_down hxy hl, e2]
        · rw [pairsN_right hf (by rw [e0, e1]; exact hl), pairsN_right hxy hl, e3]
/-- The pairs of the first lines of two lists. -/
def diag : Nat → Nat → Nat → List (Nat × Nat)
  | 0, _, _ => []
  | n + 1, i, j => (i, j) :: diag n (i + 1) (j + 1)
theorem pairsN_head (h a b : List α) : ∀ i j : Nat, pairsN (h ++ a) i (h ++ b) j = diag h.length i j ++ pairsN a (i + h.length) b (j + h.length) := by
  induction h with
  | nil => intro i j; rfl
  | cons x h ih =>
    intro i j
    rw [List.cons_append, List.cons_append, pairsN_same, ih]
    show _ :: (_ ++ _) = _ :: (_ ++ _)
    rw [show i + 1 + h.length = i + (x :: h).length from by simp; omega, show j + 1 + h.length = j + (x :: h).length from by simp; omega]
theorem pairsN_shift (a : List α) : ∀ (b : List α) (i j m n : Nat), pairsN a (i + m) b (j + n) = (pairsN a i b j).map fun p => (p.1 + m, p.2 + n) := by
  induction a with
  | nil => intro b i j m n; rfl
  | cons x a ih =>
    intro b
    induction b with
    | nil => intro i j m n; rw [pairsN_none, pairsN_none]; rfl
    | cons y b ihb =>
      intro i j m n
      by_cases h : x = y
      · subst h
        rw [pairsN_same, pairsN_same, List.map_cons, ← ih, Nat.add_right_comm i m 1, Nat.add_right_comm j n 1]
      · by_cases h2 : lcs a (y :: b) = lcs (x :: a) (y :: b)
        · rw [pairsN_down h h2, pairsN_down h h2, ← ih, Nat.add_right_comm i m 1]
        · rw [pairsN_right h h2, pairsN_right h h2, ← ihb, Nat.add_right_comm j n 1]
end
end Go.Proofs.Ytaajfekolokaoaa
namespace Go.Proofs.Ytaajfekolokaoaa

/-- Lines of a list that are others in another list. -/
structure HunkN (α : Type) where
  place : Int
  old : List α
  new : List α
section
variable {α : Type}
def hunksN (a b : List α) : Nat → Nat → List (Nat × Nat) → List (HunkN α)
  | _, _, [] => []
  | i, j, p :: r => if i < p.1 ∨ j < p.2 then ⟨i, (a.drop i).take (p.1 - i), (b.drop j).take (p.2 - j)⟩ :: hunksN a b (p.1 + 1) (p.2 + 1) r else hunksN a b (p.1 + 1) (p.2 + 1) r
theorem hunksN_yes {a b : List α} {i j : Nat} {p : Nat × Nat} (r : List (Nat × Nat)) (h : i < p.1 ∨ j < p.2) : hunksN a b i j (p :: r) = ⟨i, (a.drop i).take (p.1 - i), (b.drop j).take (p.2 - j)⟩ :: hunksN a b (p.1 + 1) (p.2 + 1) r := by
  rw [hunksN, if_pos h]
theorem hunksN_no {a b : List α} {i j : Nat} {p : Nat × Nat} (r : List (Nat × Nat)) (h : ¬ (i < p.1 ∨ j < p.2)) : hunksN a b i j (p :: r) = hunksN a b (p.1 + 1) (p.2 + 1) r := by
  rw [hunksN, if_neg h]
/-- What is made of a list by hunks that fit, from a place on. -/
def outN (a : List α) : Nat → List (HunkN α) → List α
  | done, [] => a.drop done
  | done, h :: r => (a.drop done).take (h.place.toNat - done) ++ (h.new ++ outN a (h.place.toNat + h.old.length) r)
/-- Do hunks fit, one behind the other, from a place on? -/
def Fits (a : List α) : Nat → List (HunkN α) → Prop
  | _, [] => True
  | done, h :: r => (done : Int) ≤ h.place ∧ h.place ≤ a.length ∧ h.old.length ≤ (a.length : Int) - h.place ∧ (a.drop h.place.toNat).take h.old.length = h.old ∧ Fits a (h.place.toNat + h.old.length) r
def backN : Int → List (HunkN α) → List (HunkN α)
  | _, [] => []
  | more, h :: r => ⟨h.place + more, h.new, h.old⟩ :: backN (more + (h.new.length - h.old.length)) r
theorem drop_one {a : List α} {n : Nat} {x : α} (h : a[n]? = some x) : a.drop n = x :: a.drop (n + 1) := by
  obtain ⟨hn, hx⟩ := List.getElem?_eq_some_iff.1 h
  rw [List.drop_eq_getElem_cons hn, hx]
theorem take_mid (a : List α) {m i n : Nat} (h1 : m ≤ i) (h2 : i ≤ n) : (a.drop m).take (n - m) = (a.drop m).take (i - m) ++ (a.drop i).take (n - i) := by
  have e : n - m = (i - m) + (n - i) := by omega
  rw [e, List.take_add, List.drop_drop, show m + (i - m) = i from by omega]
theorem there (a b : List α) : ∀ (P : List (Nat × Nat)) (i j done : Nat), done ≤ i → i ≤ a.length → j ≤ b.length → PairsOk a b i j P →
    Fits a done (hunksN a b i j (P ++ [(a.length, b.length)])) ∧ outN a done (hunksN a b i j (P ++ [(a.length, b.length)])) = (a.drop done).take (i - done) ++ b.drop j := by
  intro P
  induction P with
  | nil =>
    intro i j done h1 h2 h3 _
    rw [List.nil_append]
    by_cases h : i < a.length ∨ j < b.length
    · rw [hunksN_yes _ h]
      have e : ((a.drop i).take (a.length - i)).length = a.length - i := by simp
      refine ⟨⟨by simp; omega, by simp; omega, by simp; omega, ?_, trivial⟩, ?_⟩
      · show (a.drop (Int.toNat (i : Int))).take ((a.drop i).take (a.length - i)).length = _
        rw [e]; rfl
      · show (a.drop done).take (Int.toNat (i : Int) - done) ++ ((b.drop j).take (b.length - j) ++ a.drop (Int.toNat (i : Int) + ((a.drop i).take (a.length - i)).length)) = _
        rw [e, Int.toNat_natCast, show i + (a.length - i) = a.length from by omega, List.drop_length, List.append_nil, List.take_of_length_le (show (b.drop j).length ≤ b.length - j by simp)]
    · rw [hunksN_no _ h]
      refine ⟨trivial, ?_⟩
      show a.drop done = _
      rw [List.drop_eq_nil_of_le (show b.length ≤ j by omega), List.append_nil, List.take_of_length_le (by simp; omega)]
  | cons p P ih =>
    intro i j done h1 h2 h3 ⟨k1, k2, k3, k4, k5, k6⟩
    obtain ⟨x, hx⟩ : ∃ x, a[p.1]? = some x := ⟨_, List.getElem?_eq_getElem k3⟩
    have hy : b[p.2]? = some x := k5.symm.trans hx
    have da := drop_one hx
    have db := drop_one hy
    rw [List.cons_append]
    by_cases h : i < p.1 ∨ j < p.2
    · rw [hunksN_yes _ h]
      have e : ((a.drop i).take (p.1 - i)).length = p.1 - i := by simp; omega
      have e2 : Int.toNat (i : Int) + ((a.drop i).take (p.1 - i)).length = p.1 := by rw [e, Int.toNat_natCast]; omega
      obtain ⟨f1, f2⟩ := ih (p.1 + 1) (p.2 + 1) p.1 (by omega) (by omega) (by omega) k6
      refine ⟨⟨by simp; omega, by simp; omega, by simp; omega, ?_, ?_⟩, ?_⟩
      · show (a.drop (Int.toNat (i : Int))).take ((a.drop i).take (p.1 - i)).length = _
        rw [e]; rfl
      · show Fits a (Int.toNat (i : Int) + ((a.drop i).take (p.1 - i)).length) _
        rw [e2]; exact f1
      · show (a.drop done).take (Int.toNat (i : Int) - done) ++ ((b.drop j).take (p.2 - j) ++ outN a (Int.toNat (i : Int) + ((a.drop i).take (p.1 - i)).length) _) = _
        rw [e2, f2, Int.toNat_natCast, show p.1 + 1 - p.1 = 1 from by omega, da]
        congr 1
        have hb2 : b.drop j = (b.drop j).take (p.2 - j) ++ x :: b.drop (p.2 + 1) := by
          rw [← db]
          conv => lhs; rw [← List.take_append_drop (p.2 - j) (b.drop j), List.drop_drop, show j + (p.2 - j) = p.2 from by omega]
        conv => rhs; rw [hb2]
        simp
    · rw [hunksN_no _ h]
      obtain rfl : i = p.1 := by omega
      obtain rfl : j = p.2 := by omega
      obtain ⟨f1, f2⟩ := ih (p.1 + 1) (p.2 + 1) done (by omega) (by omega) (by omega) k6
      refine ⟨f1, ?_⟩
      rw [f2, take_mid a h1 (Nat.le_succ p.1), da, db]
      simp
theorem back_hunks (a b : List α) : ∀ (P : List (Nat × Nat)) (i j : Nat) (more : Int), i ≤ a.length → j ≤ b.length → more = (j : Int) - i → PairsOk a b i j P →
    backN more (hunksN a b i j (P ++ [(a.length, b.length)])) = hunksN b a j i (P.map Prod.swap ++ [(b.length, a.length)]) := by
  intro P
  induction P with
  | nil =>
    intro i j more h2 h3 hm _
    rw [List.nil_append, List.map_nil, List.nil_append]
    by_cases h : i < a.length ∨ j < b.length
    · rw [hunksN_yes _ h, hunksN_yes _ (show j < b.length ∨ i < a.length from h.symm)]
      show [HunkN.mk _ _ _] = [HunkN.mk _ _ _]
      rw [show (i : Int) + more = j from by omega]
    · rw [hunksN_no _ h, hunksN_no _ (show ¬ (j < b.length ∨ i < a.length) from fun k => h k.symm)]
      rfl
  | cons p P ih =>
    intro i j more h2 h3 hm ⟨k1, k2, k3, k4, k5, k6⟩
    rw [List.cons_append, List.map_cons, List.cons_append]
    by_cases h : i < p.1 ∨ j < p.2
    · rw [hunksN_yes _ h, hunksN_yes _ (show j < p.swap.1 ∨ i < p.swap.2 from h.symm)]
      have e1 : ((a.drop i).take (p.1 - i)).length = p.1 - i := by simp; omega
      have e2 : ((b.drop j).take (p.2 - j)).length = p.2 - j := by simp; omega
      show HunkN.mk _ _ _ :: _ = HunkN.mk _ _ _ :: _
      rw [show (i : Int) + more = j from by omega, ih (p.1 + 1) (p.2 + 1) _ (by omega) (by omega) (by
        show more + ((((b.drop j).take (p.2 - j)).length : Int) - ((a.drop i).take (p.1 - i)).length) = _
        rw [e1, e2]; omega) k6]
      rfl
    · rw [hunksN_no _ h, hunksN_no _ (show ¬ (j < p.swap.1 ∨ i < p.swap.2) from fun k => h k.symm), ih (p.1 + 1) (p.2 + 1) more (by omega) (by omega) (by omega) k6]
      rfl
theorem PairsOk.swap {a b : List α} : ∀ {P : List (Nat × Nat)} {i j : Nat}, PairsOk a b i j P → PairsOk b a j i (P.map Prod.swap)
  | [], _, _, _ => trivial
  | _ :: _, _, _, ⟨h1, h2, h3, h4, h5, h6⟩ => ⟨h2, h1, h4, h3, h5.symm, h6.swap⟩
theorem hunksN_diag (a b : List α) (R : List (Nat × Nat)) : ∀ n i j : Nat, hunksN a b i j (diag n i j ++ R) = hunksN a b (i + n) (j + n) R := by
  intro n
  induction n with
  | zero => intro i j; rfl
  | succ n ih =>
    intro i j
    show hunksN a b i j ((i, j) :: (diag n (i + 1) (j + 1) ++ R)) = _
    rw [hunksN_no _ (by simp), ih, Nat.add_right_comm, Nat.add_right_comm j]
    rfl
theorem hunksN_shift (h a b : List α) : ∀ (P : List (Nat × Nat)) (i j : Nat), hunksN (h ++ a) (h ++ b) (i + h.length) (j + h.length) (P.map fun p => (p.1 + h.length, p.2 + h.length)) =
    (hunksN a b i j P).map fun k => ⟨k.place + h.length, k.old, k.new⟩ := by
  intro P
  induction P with
  | nil => intro i j; rfl
  | cons p P ih =>
    intro i j
    rw [List.map_cons]
    have e1 : (h ++ a).drop (i + h.length) = a.drop i := by rw [Nat.add_comm, ← List.drop_drop]; simp
    have e2 : (h ++ b).drop (j + h.length) = b.drop j := by rw [Nat.add_comm, ← List.drop_drop]; simp
    have e3 := ih (p.1 + 1) (p.2 + 1)
    rw [Nat.add_right_comm, Nat.add_right_comm p.2] at e3
    by_cases k : i < p.1 ∨ j < p.2
    · rw [hunksN_yes _ (by simp; omega), hunksN_yes _ k, List.map_cons, e1, e2, e3, show p.1 + h.length - (i + h.length) = p.1 - i from by omega, show p.2 + h.length - (j + h.length) = p.2 - j from by omega]
      congr 1
    · rw [hunksN_no _ (by simp; omega), hunksN_no _ k, e3]
variable [DecidableEq α]
def diffN (a b : List α) : List (HunkN α) := hunksN a b 0 0 (pairsN a 0 b 0 ++ [(a.length, b.length)])
theorem diff_there (a b : List α) : Fits a 0 (diffN a b) ∧ outN a 0 (diffN a b) = b := by
  obtain ⟨h1, h2⟩ := there a b (pairsN a 0 b 0) 0 0 0 (Nat.le_refl _) (Nat.zero_le _) (Nat.zero_le _) (pairs_ok a b)
  exact ⟨h1, by unfold diffN; rw [h2]; simp⟩
theorem diff_back (a b : List α) : Fits b 0 (backN 0 (diffN a b)) ∧ outN b 0 (backN 0 (diffN a b)) = a := by
  unfold diffN
  rw [back_hunks a b _ 0 0 0 (Nat.zero_le _) (Nat.zero_le _) (by simp) (pairs_ok a b)]
  obtain ⟨h1, h2⟩ := there b a ((pairsN a 0 b 0).map Prod.swap) 0 0 0 (Nat.le_refl _) (Nat.zero_le _) (Nat.zero_le _) (pairs_ok a b).swap
  exact ⟨h1, by rw [h2]; simp⟩
theorem diff_head (h a b : List α) : diffN (h ++ a) (h ++ b) = (diffN a b).map fun k => ⟨k.place + h.length, k.old, k.new⟩ := by
  unfold diffN
  rw [pairsN_head, List.append_assoc, hunksN_diag, pairsN_shift, ← hunksN_shift]
  congr 1
  simp [Nat.add_comm]
theorem diff_self (a : List α) : diffN a a = [] := by
  have := diff_head a [] []
  rw [List.append_nil] at this
  rw [this]; rfl
theorem diff_nil {a b : List α} : diffN a b = [] ↔ a = b := by
  constructor
  · intro h
    have := (diff_there a b).2
    rw [h] at this
    simpa [outN] using this
  · rintro rfl; exact diff_self a
theorem work_iff {m n : Nat} (hm : 0 < m) : 1048576 / m < n ↔ 1048576 < m * n := by
  rw [Nat.div_lt_iff_lt_mul hm, Nat.mul_comm]
end
end Go.Proofs.Ytaajfekolokaoaa
namespace Go.Proofs.Ytaajfekolokaoaa
open Go.RowKit

theorem run_eql_nilS (w : World) (a : Option Addr) (l c : Nat) : (binOp .eql 22 (.slice a l c) (.slice none 0 0)).run Try.prog w = .ok (.bool a.isNone) w := by
  have h := run_equal_slice_nil (P := Try.prog) (w := w) 22 9 a l c Try.underlying22
  simp [binOp, h]
theorem eq_step {a b : List (List UInt8)} {k : Nat} (ha : k < a.length) (hb : k < b.length) (h : a.take k = b.take k) (e : a.getD k [] = b.getD k []) : a.take (k + 1) = b.take (k + 1) := by
  rw [take_snoc (d := []) ha, take_snoc (d := []) hb, h, e]
theorem eq_stop {a b : List (List UInt8)} {k : Nat} (e : a.getD k [] ≠ b.getD k []) : decide (a = b) = false := by
  apply decide_eq_false
  rintro rfl
  exact e rfl
end Go.Proofs.Ytaajfekolokaoaa
namespace Go.Proofs.Ytaajfekolokaoaa
open Go.RowKit

/-- The lines of a text, each with its end. -/
def linesL : List UInt8 → List (List UInt8)
  | [] => []
  | c :: t => if c = 10 then [10] :: linesL t else match linesL t with
    | [] => [[c]]
    | h :: r => (c :: h) :: r
theorem linesL_end {x : List UInt8} (h : (10 : UInt8) ∉ x) (r : List UInt8) : linesL (x ++ 10 :: r) = (x ++ [10]) :: linesL r := by
  induction x with
  | nil => rfl
  | cons c x ih =>
    have hc : c ≠ 10 := fun e => h (e ▸ List.mem_cons_self)
    rw [List.cons_append, linesL, if_neg hc, ih (fun e => h (List.mem_cons_of_mem _ e))]; rfl
theorem linesL_last {x : List UInt8} (h : (10 : UInt8) ∉ x) (hx : x ≠ []) : linesL x = [x] := by
  induction x with
  | nil => exact absurd rfl hx
  | cons c x ih =>
    have hc : c ≠ 10 := fun e => h (e ▸ List.mem_cons_self)
    rw [linesL, if_neg hc]
    cases x with
    | nil => rfl
    | cons d x => rw [ih (fun e => h (List.mem_cons_of_mem _ e)) (by simp)]
theorem linesL_flat (x : List UInt8) : (linesL x).flatten = x := by
  induction x with
  | nil => rfl
  | cons c t ih =>
    rw [linesL]
    by_cases h : c = 10
    · rw [if_pos h, List.flatten_cons, ih, h]; rfl
    · rw [if_neg h]
      cases e : linesL t with
      | nil =>
        rw [e] at ih
        have ht : t = [] := by simpa using ih.symm
        subst ht; rfl
      | cons a r => rw [e] at ih; rw [← ih]; rfl
theorem linesL_len (x : List UInt8) : (linesL x).length ≤ x.length := by
  induction x with
  | nil => simp [linesL]
  | cons c t ih =>
    rw [linesL]
    split
    · simpa using ih
    · cases e : linesL t with
      | nil => simp
      | cons a r => rw [e] at ih; simp at ih ⊢; omega
theorem linesL_mem (x : List UInt8) : ∀ l ∈ linesL x, l.length ≤ x.length := by
  induction x with
  | nil => intro l hl; cases hl
  | cons c t ih =>
    rw [linesL]
    split
    · intro l hl
      rcases List.mem_cons.1 hl with rfl | hl
      · simp
      · have := ih l hl; simp; omega
    · cases e : linesL t with
      | nil => intro l hl; rw [List.mem_singleton] at hl; subst hl; simp
      | cons a r =>
        rw [e] at ih
        intro l hl
        rcases List.mem_cons.1 hl with rfl | hl
        · have := ih a List.mem_cons_self; simp; omega
        · have := ih l (List.mem_cons_of_mem _ hl); simp; omega
theorem index_cases (l : List UInt8) (c : UInt8) : (Lib.indexByte l c = -1 ∧ c ∉ l) ∨ ∃ n : Nat, Lib.indexByte l c = n ∧ n < l.length ∧ c ∉ l.take n ∧ l.drop n = c :: l.drop (n + 1) := by
  have hge := Lib.indexByte_ge l c
  rcases Int.lt_or_le (Lib.indexByte l c) 0 with h | h
  · have e : Lib.indexByte l c = -1 := by omega
    left
    refine ⟨e, fun hm => ?_⟩
    obtain ⟨k, hk⟩ := List.getElem?_of_mem hm
    exact Lib.indexByte_none e k hk
  · right
    obtain ⟨n, hn⟩ := Int.eq_ofNat_of_zero_le h
    obtain ⟨h1, h2⟩ := Lib.indexByte_some hn
    obtain ⟨hl, hx⟩ := List.getElem?_eq_some_iff.1 h1
    refine ⟨n, hn, hl, fun hm => ?_, by rw [List.drop_eq_getElem_cons hl, hx]⟩
    obtain ⟨k, hk⟩ := List.getElem?_of_mem hm
    rw [List.getElem?_take] at hk
    split at hk
    · rename_i hkn; exact h2 k hkn hk
    · cases hk
/-- Is it a text: no byte 0? -/
def isTextB (l : List UInt8) : Bool := decide ((0 : UInt8) ∉ l)
theorem bytes_slen {S : Nat → Prop} {w : World} {v : Value} {l : List UInt8} (h : BytesC S w v l) : ∃ a c, v = .slice a l.length c ∧ l.length ≤ c ∧ c ≤ 9223372036854775807 := by
  rcases h with ⟨rfl, rfl⟩ | ⟨a, cap, rfl, h1, h2, _⟩
  · exact ⟨none, 0, rfl, Nat.le_refl _, by omega⟩
  · exact ⟨_, cap, rfl, h1, by unfold maxLen at h2; omega⟩
def slenV : Value → Nat
  | .slice _ n _ => n
  | _ => 0
end Go.Proofs.Ytaajfekolokaoaa
namespace Go.Proofs.Ytaajfekolokaoaa
open Go.RowKit

theorem flat_snoc {l : List (List UInt8)} {k : Nat} (h : k < l.length) : (l.take (k + 1)).flatten = (l.take k).flatten ++ l.getD k [] := by
  rw [take_snoc (d := []) h, List.flatten_append]; simp
theorem flat_take_le (l : List (List UInt8)) (k : Nat) : (l.take k).flatten.length ≤ l.flatten.length := by
  conv => rhs; rw [← List.take_append_drop k l, List.flatten_append, List.length_append]
  omega
theorem src_string (w : World) (x : List UInt8) : Src Try.prog 1 9 (.string ⟨x.toArray⟩) x.length (bv x) w := by
  have h := Src.ofString (P := Try.prog) w Try.underlying9 ⟨x.toArray⟩
  exact h
/-- A line found at a place. -/
theorem lines_cut {s : List UInt8} {f i : Nat} (hf : f ≤ i) (hi : i < s.length) (hn : (10 : UInt8) ∉ (s.drop f).take (i - f)) (e : s[i] = 10) : linesL (s.drop f) = (s.drop f).take (i + 1 - f) :: linesL (s.drop (i + 1)) := by
  have hd : s.drop f = (s.drop f).take (i - f) ++ 10 :: s.drop (i + 1) := by
    conv => lhs; rw [← List.take_append_drop (i - f) (s.drop f), List.drop_drop, show f + (i - f) = i from by omega, List.drop_eq_getElem_cons hi, e]
  have hl : ((s.drop f).take (i - f)).length = i - f := by simp; omega
  rw [show (s.drop f).take (i + 1 - f) = (s.drop f).take (i - f) ++ [10] from by
    conv => lhs; rw [hd]
    rw [List.take_append, hl, show i + 1 - f - (i - f) = 1 from by omega, List.take_of_length_le (by omega)]; rfl]
  conv => lhs; rw [hd]
  exact linesL_end hn _
theorem lines_rest {s : List UInt8} {f i : Nat} (hf : f ≤ i) (hi : i + 1 = s.length) (hn : (10 : UInt8) ∉ (s.drop f).take (i - f)) (e : s[i]'(by omega) ≠ 10) : linesL (s.drop f) = (s.drop f).take (i + 1 - f) :: linesL (s.drop (i + 1)) := by
  have hd : s.drop f = (s.drop f).take (i - f) ++ [s[i]] := by
    have e1 : s.drop i = [s[i]] := by rw [List.drop_eq_getElem_cons (show i < s.length by omega), List.drop_eq_nil_of_le (by omega)]
    conv => lhs; rw [← List.take_append_drop (i - f) (s.drop f), List.drop_drop, show f + (i - f) = i from by omega, e1]
  rw [List.take_of_length_le (by simp; omega), List.drop_eq_nil_of_le (show s.length ≤ i + 1 by omega)]
  refine linesL_last ?_ (by intro h; rw [h] at hd; simp at hd)
  rw [hd]
  intro h
  rcases List.mem_append.1 h with h | h
  · exact hn h
  · rw [List.mem_singleton] at h; exact e h.symm
theorem lines_on {s : List UInt8} {f i : Nat} (hf : f ≤ i) (hi : i < s.length) (hn : (10 : UInt8) ∉ (s.drop f).take (i - f)) (e : s[i] ≠ 10) : (10 : UInt8) ∉ (s.drop f).take (i + 1 - f) := by
  have hl : ((s.drop f).take (i - f)).length = i - f := by simp; omega
  rw [show i + 1 - f = (i - f) + 1 from by omega, List.take_succ_eq_append_getElem (by simp; omega)]
  intro h
  rcases List.mem_append.1 h with h | h
  · exact hn h
  · rw [List.mem_singleton, List.getElem_drop] at h
    have : f + (i - f) = i := by omega
    simp only [this] at h
    exact e h.symm
end Go.Proofs.Ytaajfekolokaoaa
namespace Go.Proofs.Ytaajfekolokaoaa
open Go.RowKit Go.Maps

/-- Lines that are known, and those of a list that aren't yet. -/
def addK : List (List UInt8) → List (List UInt8) → List (List UInt8)
  | K, [] => K
  | K, x :: l => addK (if x ∈ K then K else K ++ [x]) l
theorem addK_app (K l r : List (List UInt8)) : addK K (l ++ r) = addK (addK K l) r := by
  induction l generalizing K with
  | nil => rfl
  | cons x l ih => exact ih _
theorem addK_pre (l : List (List UInt8)) : ∀ K, K <+: addK K l := by
  induction l with
  | nil => intro K; exact List.prefix_refl _
  | cons x l ih =>
    intro K
    refine List.IsPrefix.trans ?_ (ih _)
    split
    · exact List.prefix_refl _
    · exact List.prefix_append _ _
theorem addK_mem (l : List (List UInt8)) : ∀ K, ∀ x ∈ l, x ∈ addK K l := by
  induction l with
  | nil => intro K x hx; cases hx
  | cons y l ih =>
    intro K x hx
    rcases List.mem_cons.1 hx with rfl | hx
    · refine (addK_pre l _).subset ?_
      split
      · assumption
      · simp
    · exact ih _ x hx
theorem addK_len (l : List (List UInt8)) : ∀ K, (addK K l).length ≤ K.length + l.length := by
  induction l with
  | nil => intro K; simp [addK]
  | cons x l ih =>
    intro K
    have := ih (if x ∈ K then K else K ++ [x])
    show (addK _ l).length ≤ _
    split at this
    · rename_i h; rw [if_pos h]; simp; omega
    · rename_i h; rw [if_neg h]; simp at this ⊢; omega
theorem idx_pre {K K2 : List (List UInt8)} (h : K <+: K2) {x : List UInt8} (hx : x ∈ K) : K2.idxOf x = K.idxOf x := by
  obtain ⟨r, rfl⟩ := h
  rw [List.idxOf_append, if_pos hx]
theorem idx_inj {K : List (List UInt8)} {x y : List UInt8} (hx : x ∈ K) (h : K.idxOf x = K.idxOf y) : x = y := by
  have h1 := List.idxOf_lt_length_of_mem hx
  have h2 : K.idxOf y < K.length := by omega
  have e1 := List.getElem_idxOf h1
  have e2 := List.getElem_idxOf h2
  simp only [h] at e1
  exact e1.symm.trans e2
/-- Numbers as cells. -/
def iv (l : List Nat) : List Value := l.map fun n : Nat => Value.int .i64 (n : Int)
theorem iv_append (l r : List Nat) : iv (l ++ r) = iv l ++ iv r := by unfold iv; rw [List.map_append]
theorem iv_len (l : List Nat) : (iv l).length = l.length := by unfold iv; simp
theorem iv_one (l : List Nat) : ∀ u ∈ iv l, u.oneCell' = true := by
  intro u hu
  unfold iv at hu
  obtain ⟨x, _, rfl⟩ := List.mem_map.1 hu
  rfl
theorem iv_at {l : List Nat} {k : Nat} (h : k < l.length) : (iv l)[k]? = some (.int .i64 (l.getD k 0 : Nat)) := by
  unfold iv; simp [List.getD, List.getElem?_eq_getElem h]
def OwnI (w : World) (B : Nat) (v : Value) (l : List Nat) : Prop := w.ownsRow B 3 1 v l.length (iv l)
def IntsC (S : Nat → Prop) (w : World) (v : Value) (l : List Nat) : Prop := CellsC S w v l.length 1 (iv l)
theorem ownI_nil (w : World) (B : Nat) : OwnI w B (.slice none 0 0) [] := World.ownsRow_nil _ _ _ _
theorem ownI_push {w2 : World} {B : Nat} {v : Value} {l : List Nat} {x : Nat} (h : w2.ownsRow B 3 1 v (l.length + 1) (iv l ++ [.int .i64 (x : Int)])) : OwnI w2 B v (l ++ [x]) := by
  unfold OwnI
  rw [iv_append, List.length_append]; exact h
theorem ownI_slice {w : World} {B : Nat} {v : Value} {l : List Nat} (h : OwnI w B v l) : ∃ a cap, v = .slice a l.length cap := by
  rcases h.2 with ⟨e, hn⟩ | ⟨g, cap, cur, e, _⟩
  · rw [hn]; exact ⟨none, 0, e⟩
  · exact ⟨_, _, e⟩
theorem srcI_one (w : World) (x : Int) : Src Try.prog 1 80 (.slice (some ⟨w.heap.size, 0, none⟩) 1 1) 1 [.int .i64 x] (w.alloc (.cells #[.int .i64 x] 3)) :=
  Src.ofSlice _ Try.underlying80 _ 1 1 _ rfl (news_one _ _ _) (fun u hu => by rw [List.mem_singleton] at hu; subst hu; rfl)
theorem Try.info3i : (Try.prog.info? 3).map (fun i => (i.zero, i.size, i.bytes)) = some (some (.int .i64 0), 1, 8) := by kernel_rfl
theorem IntsC.shape {S : Nat → Prop} {w : World} {v : Value} {l : List Nat} (h : IntsC S w v l) : ∃ a c, v = .slice a l.length c := CellsC.shape h
theorem IntsC.at {S : Nat → Prop} {w : World} {a : Option Addr} {c : Nat} {l : List Nat} (h : IntsC S w (.slice a l.length c) l) (hl : 0 < l.length) : ∃ g o, a = some ⟨g, o, none⟩ ∧ S g ∧ l.length ≤ c ∧ c ≤ 9223372036854775807 ∧ ∀ i, i < l.length → w.cell? ⟨g, o + i, none⟩ = some (.int .i64 (l.getD i 0 : Nat)) := by
  obtain ⟨g, o, h1, h2, h3, h4, h5⟩ := CellsC.at h hl
  exact ⟨g, o, h1, h2, h3, h4, fun i hi => h5 i _ (iv_at hi)⟩
theorem ownI_c {w : World} {B : Nat} {v : Value} {l : List Nat} (h : OwnI w B v l) : IntsC (fun k => B ≤ k ∧ k < w.heap.size) w v l := own_cells h (iv_one l)
/-- A map of the call's own that numbers the lines of a list. -/
structure NumM (w : World) (B n : Nat) (D : DataW Unit) (K : List (List UInt8)) : Prop where
  own : w.ownsMap Try.prog 9 (plainElem Try.prog 3) B n D
  len : n = K.length
  tidy : Tidy D
  size : Maps.size D = K.length
  has : ∀ x, Maps.has D (.string x) = decide (x ∈ K)
  at_ : ∀ x, x ∈ K → D.atKey (.string x) (.lit (.int .i64 0)) = .lit (.int .i64 (K.idxOf x : Nat))
theorem keyLaw : Keyed Try.prog 9 := string_keyed Try.underlying9
theorem zeroInt (w : World) : (zeroValue 3).run Try.prog w = .ok (.int .i64 0) w := by kernel_rfl
theorem NumM.made (w : World) : NumM (w.alloc (.map #[] 0)) w.heap.size 0 (.map []) [] :=
  ⟨World.ownsMap_made _ _ _ _, rfl, tidy_empty, rfl, fun x => by simp [Maps.has], fun x hx => by cases hx⟩
theorem NumM.kept {w w' : World} {B n : Nat} {D : DataW Unit} {K : List (List UInt8)} (h : NumM w B n D K) (hk : w'.heap[B]? = w.heap[B]?) : NumM w' B n D K := by
  refine ⟨?_, h.len, h.tidy, h.size, h.has, h.at_⟩
  obtain ⟨es, clock, hb, F, hs, hD⟩ := h.own
  exact ⟨es, clock, hk.trans hb, F, hs, hD⟩
theorem lit_ne {x y : List UInt8} (h : x ≠ y) : (Lit.string x) ≠ .string y := fun e => h (by injection e)
theorem NumM.put {w w' : World} {B n : Nat} {D : DataW Unit} {K : List (List UInt8)} (h : NumM w B n D K) {x : List UInt8} (hx : x ∉ K) (ho : w'.ownsMap Try.prog 9 (plainElem Try.prog 3) B (n + 1) (D.put (.string x) (.lit (.int .i64 (K.length : Nat))))) :
    NumM w' B (n + 1) (D.put (.string x) (.lit (.int .i64 (K.length : Nat)))) (K ++ [x]) := by
  have hk : WideAt.IsKeyLit (.string x) := trivial
  have hm := h.tidy.isMap
  refine ⟨ho, by rw [h.len]; simp, h.tidy.put hk _, ?_, fun y => ?_, fun y hy => ?_⟩
  · rw [size_put h.tidy, h.has x, h.size]
    simp [hx]
  · by_cases e : y = x
    · subst e; rw [has_put_same hm hk]; simp
    · rw [has_put_other (lit_ne e), h.has y]
      apply decide_eq_decide.2
      simp [e]
  · by_cases e : y = x
    · subst e
      rw [atKey_put_same hm hk, List.idxOf_append, if_neg hx]; simp
    · have hyK : y ∈ K := by simpa [e] using hy
      rw [atKey_put_other (lit_ne e), h.at_ y hyK, List.idxOf_append, if_pos hyK]
theorem num_step {K : List (List UInt8)} {l : List (List UInt8)} {k : Nat} (h : k < l.length) : addK K (l.take (k + 1)) = (if l.getD k [] ∈ addK K (l.take k) then addK K (l.take k) else addK K (l.take k) ++ [l.getD k []]) := by
  rw [take_snoc (d := []) h, addK_app]; rfl
theorem num_map {K K2 l : List (List UInt8)} {k : Nat} (hk : k < l.length) (hp : addK K (l.take k) <+: K2) : (l.take (k + 1)).map (fun x => K2.idxOf x) = (l.take k).map (fun x => (addK K (l.take k)).idxOf x) ++ [K2.idxOf (l.getD k [])] := by
  rw [take_snoc (d := []) hk, List.map_append]
  congr 1
  apply List.map_congr_left
  intro x hx
  exact idx_pre hp (addK_mem _ _ x hx)
theorem cv_of {X : DataW Unit} {a b : Int} (h1 : X = .lit (.int .i64 a)) (h2 : X = .lit (.int .i64 b)) : a = b := by
  have := h1.symm.trans h2
  injection this with this
  injection this
set_option maxRecDepth 100000 in
set_option maxHeartbeats 4000000 in
theorem number_any (S : Nat → Prop) (v : Value) (l : List (List UInt8)) (mb B n : Nat) (D : DataW Unit) (K : List (List UInt8)) (w : World) (hS : ∀ k, S k → k < w.heap.size ∧ k ≠ B) (h : StrsC S w v l) (hl : l.length ≤ 4194304) (hK : K.length ≤ 4194304) (hx : ∀ x ∈ l, x.length ≤ 4194304)
    (hM : NumM w B n D K) (hc : w.cell? ⟨mb, 0, none⟩ = some (.map (some B))) (hmb : mb ≠ B) :
    Calls Try.prog 52 #[v, .pointer (some ⟨mb, 0, none⟩)] w fun e w' => ∃ v' n' D', e = .returned v' ∧ OwnI w' w.heap.size v' (l.map fun x => (addK K l).idxOf x) ∧ NumM w' B n' D' (addK K l) ∧ w.grownBy w' (some B) := by
  obtain ⟨i0, hi, hz0, hz1, hz2⟩ := info_parts Try.info3i
  obtain ⟨a, c, rfl⟩ := h.shape
  have HS := Lib.hid hS
  have H := Lib.hid h
  have HM := Lib.hid hM
  have HR := Lib.hid (kb_refl w (some B))
  have HC := Lib.hid hc
  have HMB := Lib.hid hmb
  have hmlt : mb < w.heap.size := World.block_lt_of_cell? _ _ hc
  have hBlt : B < w.heap.size := hM.own.lt
  have HX : Hid (∀ j, j < l.length → (l.getD j []).length ≤ 4194304) := Lib.hid (fun j hj => by rw [getD_at hj]; exact hx _ (List.getElem_mem hj))
  clear h hS hM hc hmb hx
  go_enter Try.func52, Try.ntmps52
  go_wp2_with fail
  go_loopw [4, 11] (fun o i wr => ∃ (k n' : Nat) (D' : DataW Unit), k ≤ l.length ∧ i = .int .i64 k ∧ Hid (OwnI wr w.heap.size o ((l.take k).map fun x => (addK K (l.take k)).idxOf x)) ∧ Hid (NumM wr B n' D' (addK K (l.take k))) ∧ Hid (w.grownBy wr (some B))) (fun _ i _ => l.length - (intOf i).toNat)
  case atStart => exact ⟨0, n, D, Nat.zero_le _, rfl, Lib.hid (ownI_nil _ _), HM, HR⟩
  case round =>
    obtain ⟨k, n', D', hk, rfl, hO, hN, hG⟩ := hrel
    obtain ⟨oa, oc, rfl⟩ := ownI_slice hO.out
    by_cases hlt : k < l.length
    · obtain ⟨g, o, rfl, hSg, _, _, hxs⟩ := H.out.at (by omega)
      obtain ⟨hblk, hgB⟩ := HS.out _ hSg
      have c1 := (World.cell?_of_block (w := w) (a := ⟨g, o + k, none⟩) (hG.out.block g hblk (fun e => hgB (by injection e)))).trans (hxs k hlt)
      have c2 := (World.cell?_of_block (w := w) (a := ⟨mb, 0, none⟩) (hG.out.block mb hmlt (fun e => HMB.out (by injection e)))).trans HC.out
      have hxl := HX.out k hlt
      have HST := Lib.hid (num_step (K := K) hlt)
      have HMAP := Lib.hid (fun K2 => num_map (K := K) (K2 := K2) hlt)
      have hKL : (addK K (l.take k)).length ≤ 8388608 := by have := addK_len (l.take k) K; simp at this; omega
      have hlm : ((l.take k).map fun x => (addK K (l.take k)).idxOf x).length = k := by simp; omega
      have HLM := Lib.hid hlm
      have hdl : ((l.take k).map fun x => (addK K (l.take k)).idxOf x).length ≤ 4194304 := by omega
      clear hlm
      have hsz := hG.out.size
      generalize ((l.take k).map fun x => (addK K (l.take k)).idxOf x) = d at *
      generalize addK K (l.take k) = Kk at *
      generalize l.getD k [] = x at *
      have hkey : keyOf Try.prog 9 (.string ⟨x.toArray⟩) = some (.string x) := by
        have := Go.WideMaps.keyOf_string_mk Try.underlying9 (s := ⟨x.toArray⟩) (by unfold maxLen; simp [ByteArray.size]; omega)
        simpa using this
      clear hxs
      by_cases hin : x ∈ Kk
      · have HH : Hid (Maps.has D' (.string x) = true) := Lib.hid (by rw [hN.out.has]; exact decide_eq_true hin)
        have HAT := Lib.hid (hN.out.at_ x hin)
        have HIL : Kk.idxOf x < 8388608 := by have := List.idxOf_lt_length_of_mem hin; omega
        have HST2 : Hid (addK K (l.take (k + 1)) = Kk) := Lib.hid (HST.out.trans (if_pos hin))
        have HMP := Lib.hid (HMAP.out Kk (List.prefix_refl _))
        clear hin
        generalize Kk.idxOf x = q at *
        go_wp2_with (first | (at_lookup; refine wpList_lookup_own_ok_int _ rfl _ _ 47 rfl 9 3 .i64 keyLaw Try.underlying47 Try.underlying3 (zeroInt _) B n' D' rfl hN.out.own _ _ rfl hkey ?_; intro cv hat hwc; rw [HH.out]; obtain rfl := cv_of hat HAT.out; clear hat hwc) | (at_builtin; refine wpList_own_src _ rfl _ _ 80 80 rfl w.heap.size 3 i0 (.int .i64 0) 1 8 Try.underlying80 hi hz0 hz1 hz2 rfl (by decide) _ _ _ rfl (World.ownsRow.alloc hO.out _) _ 1 [.int .i64 (q : Int)] rfl (srcI_one _ _) (by unfold maxLen; omega) (by omega) (by simp; omega) ?_))
        intro v5 w5 hown5 hg5
        have O5 : Hid (OwnI w5 w.heap.size v5 (d ++ [q])) := Lib.hid (ownI_push hown5)
        have hne5 : ∀ j, j < w.heap.size → some j ≠ (Value.slice oa d.length oc).ownBlock := fun j hj e => by have := (World.ownsRow.lt hO.out j e.symm).1; omega
        have G5 : Hid (w.grownBy w5 (some B)) := Lib.hid (kb_grew (kb_alloc hG.out _) hg5 (Nat.le_refl _) (fun j hj => (World.ownsRow.lt hO.out j hj).1))
        have N5 : Hid (NumM w5 B n' D' Kk) := Lib.hid (hN.out.kept (by rw [hg5.gb.block B (by simp; omega) (hne5 B hBlt), Below.heap_alloc _ _ _ (by omega)]))
        clear hown5 hg5 hne5
        go_wp2_with fail
        go_roundw
        case rel => exact ⟨k + 1, n', D', by omega, by go_num, by rw [HST2.out, HMP.out]; exact O5, by rw [HST2.out]; exact N5, G5⟩
        case measure => simp [intOf]; omega
      · have HH : Hid (Maps.has D' (.string x) = false) := Lib.hid (by rw [hN.out.has]; exact decide_eq_false hin)
        have HSZ : Hid (Maps.size D' = Kk.length) := Lib.hid hN.out.size
        have hn8 : n' < 9000000 := by have := hN.out.len; omega
        have HST2 : Hid (addK K (l.take (k + 1)) = Kk ++ [x]) := Lib.hid (HST.out.trans (if_neg hin))
        have HMP : Hid ((l.take (k + 1)).map (fun y => (Kk ++ [x]).idxOf y) = d ++ [Kk.length]) := Lib.hid (by
          rw [HMAP.out (Kk ++ [x]) (List.prefix_append _ _), List.idxOf_append, if_neg hin]; simp)
        have HIN := Lib.hid hin
        have hwf : (Lit.int .i64 (Kk.length : Int)).wf = true := WalkArith.wf_i64 (by omega)
        clear hin
        have hne4 : Hid ((Value.slice oa d.length oc).ownBlock ≠ some B) := Lib.hid (fun e => by have := (World.ownsRow.lt hO.out B e).1; omega)
        go_wp2_with (first | (at_lookup; refine wpList_lookup_own_ok_int _ rfl _ _ 47 rfl 9 3 .i64 keyLaw Try.underlying47 Try.underlying3 (zeroInt _) B n' D' rfl hN.out.own _ _ rfl hkey ?_; intro cv hat hwc; rw [HH.out]; clear hat hwc) | (at_len; refine wpList_len_own _ rfl _ 47 rfl 9 3 Try.underlying47 _ B n' D' rfl hN.out.own ?_; rw [HSZ.out]) | (at_mapUpdate; refine wpList_mapUpdate_own _ rfl _ _ _ 47 rfl 9 3 keyLaw Try.underlying47 _ B n' _ rfl hN.out.own (by unfold maxLen; omega) _ _ _ rfl rfl hkey _ [] (plainElem_int Try.underlying3 hwf) ?_; intro w4 hown4 hgrow4; have N4 := Lib.hid (hN.out.put HIN.out hown4); have O4 : Hid (OwnI w4 w.heap.size (.slice oa d.length oc) d) := Lib.hid (World.ownsRow.kept hO.out hgrow4 (Or.inr hne4.out)); have G4 := Lib.hid (kb_trans hG.out hgrow4); have hs4 := hgrow4.size; clear hown4 hgrow4) | (at_builtin; refine wpList_own_src _ rfl _ _ 80 80 rfl w.heap.size 3 i0 (.int .i64 0) 1 8 Try.underlying80 hi hz0 hz1 hz2 rfl (by decide) _ _ _ rfl (World.ownsRow.alloc O4.out _) _ 1 [.int .i64 (Kk.length : Int)] rfl (srcI_one _ _) (by unfold maxLen; omega) (by omega) (by simp; omega) ?_))
        intro v5 w5 hown5 hg5
        have O5 : Hid (OwnI w5 w.heap.size v5 (d ++ [Kk.length])) := Lib.hid (ownI_push hown5)
        have hne5 : ∀ j, j < w.heap.size → some j ≠ (Value.slice oa d.length oc).ownBlock := fun j hj e => by have := (World.ownsRow.lt O4.out j e.symm).1; omega
        have G5 : Hid (w.grownBy w5 (some B)) := Lib.hid (kb_grew (kb_alloc G4.out _) hg5 (Nat.le_refl _) (fun j hj => (World.ownsRow.lt O4.out j hj).1))
        have N5 := Lib.hid (N4.out.kept (w' := w5) (by rw [hg5.gb.block B (by simp; omega) (hne5 B hBlt), Below.heap_alloc _ _ _ (by omega)]))
        clear hown5 hg5 hne5
        go_wp2_with fail
        go_roundw
        case rel => exact ⟨k + 1, n' + 1, _, by omega, by go_num, by rw [HST2.out, HMP.out]; exact O5, by rw [HST2.out]; exact N5, G5⟩
        case measure => simp [intOf]; omega
    · have hkl : l.take k = l := List.take_of_length_le (by omega)
      have HQ := Lib.hid hkl
      clear hkl
      go_wp2_with fail
      go_ret
      refine ⟨_, n', D', rfl, ?_, ?_, hG.out⟩
      · have e : (l.take k).map (fun x => (addK K (l.take k)).idxOf x) = l.map (fun x => (addK K l).idxOf x) := by rw [HQ.out]
        rw [← e]; exact hO.out
      · have := hN.out; rwa [HQ.out] at this
/-- The numbers of two lists' lines. -/
def numK (a b : List (List UInt8)) : List (List UInt8) := addK (addK [] a) b
def numA (a b : List (List UInt8)) : List Nat := a.map fun x => (numK a b).idxOf x
def numB (a b : List (List UInt8)) : List Nat := b.map fun x => (numK a b).idxOf x
theorem num_inj (a b : List (List UInt8)) : ∀ x ∈ a, ∀ y ∈ b, (numK a b).idxOf x = (numK a b).idxOf y → x = y :=
  fun x hx _ _ h => idx_inj ((addK_pre b _).subset (addK_mem a [] x hx)) h
theorem numA_first (a b : List (List UInt8)) : a.map (fun x => (addK [] a).idxOf x) = numA a b := by
  unfold numA
  apply List.map_congr_left
  intro x hx
  exact (idx_pre (addK_pre b _) (addK_mem a [] x hx)).symm
set_option maxRecDepth 100000 in
set_option maxHeartbeats 4000000 in
theorem numbers_any (S T : Nat → Prop) (va vb : Value) (a b : List (List UInt8)) (w : World) (hS : ∀ k, S k → k < w.heap.size) (hT : ∀ k, T k → k < w.heap.size) (ha : StrsC S w va a) (hb : StrsC T w vb b) (hal : a.length ≤ 4194304) (hbl : b.length ≤ 4194304) (hax : ∀ x ∈ a, x.length ≤ 4194304) (hbx : ∀ x ∈ b, x.length ≤ 4194304) :
    Calls Try.prog 39 #[va, vb] w fun e w' => ∃ v1 v2, e = .returned (.tuple #[v1, v2]) ∧ OwnI w' w.heap.size v1 (numA a b) ∧ OwnI w' w.heap.size v2 (numB a b) ∧ Below w.heap.size w w' := by
  have hmm := @run_makeMap Try.prog
  have HS := Lib.hid hS
  have HT := Lib.hid hT
  have HA := Lib.hid ha
  have HB := Lib.hid hb
  have HN := Lib.hid (NumM.made w)
  have C0 : Hid (((w.alloc (.map #[] 0)).alloc (.cells #[.map (some w.heap.size)] 47)).cell? ⟨w.heap.size + 1, 0, none⟩ = some (.map (some w.heap.size))) := Lib.hid (by simp)
  have HX1 := Lib.hid hax
  have HX2 := Lib.hid hbx
  have HB0 := Lib.hid (((Below.refl w.heap.size w).alloc (Nat.le_refl _) (.map #[] 0)).alloc (by simp) (.cells #[.map (some w.heap.size)] 47))
  clear hS hT ha hb hax hbx
  go_enter Try.func39, Try.ntmps39
  go_wp2_with fail
  refine (number_any S va a (w.heap.size + 1) w.heap.size 0 (.map []) [] _ (fun k hk => by have := HS.out k hk; exact ⟨by simp; omega, by omega⟩) (HA.out.kept (fun k hk => ⟨hk, HB0.out.block k (HS.out k hk)⟩)) hal (by simp) HX1.out (HN.out.kept (Below.heap_alloc _ _ _ (by simp))) C0.out (by omega)).mono ?_
  rintro e w1 ⟨v1, n1, D1, rfl, ho1, hn1, hg1⟩
  have O1 := Lib.hid ho1
  have N1 := Lib.hid hn1
  have C1 : Hid (w1.cell? ⟨w.heap.size + 1, 0, none⟩ = some (.map (some w.heap.size))) := Lib.hid (by
    rw [World.cell?_of_block (w := (w.alloc (.map #[] 0)).alloc (.cells #[.map (some w.heap.size)] 47)) (hg1.block _ (by simp) (by simp))]; exact C0.out)
  have B1 : Hid (Below w.heap.size w w1) := Lib.hid (HB0.out.grown hg1 (by simp; omega) (fun k hk => by injection hk with hk; omega))
  clear ho1 hn1 hg1
  go_wp2_with fail
  refine (number_any T vb b (w.heap.size + 1) w.heap.size n1 D1 (addK [] a) w1 (fun k hk => by have := HT.out k hk; exact ⟨by have := B1.out.size; omega, by omega⟩) (HB.out.kept (fun k hk => ⟨hk, B1.out.block k (HT.out k hk)⟩)) hbl (by have := addK_len a []; simp at this; omega) HX2.out N1.out C1.out (by omega)).mono ?_
  rintro e w2 ⟨v2, n2, D2, rfl, ho2, hn2, hg2⟩
  have O2 := Lib.hid ho2
  have O1' : Hid (OwnI w2 w.heap.size v1 (numA a b)) := Lib.hid (by
    rw [← numA_first]
    refine own_base (World.ownsRow.kept O1.out hg2 (Or.inr (fun e => by have := (World.ownsRow.lt O1.out _ e).1; simp at this; omega))) (by simp; omega))
  have B2 : Hid (Below w.heap.size w w2) := Lib.hid (B1.out.grown hg2 B1.out.size (fun k hk => by injection hk with hk; omega))
  have hs2 := B1.out.size
  clear ho2 hn2 hg2
  go_wp2_with fail
  go_ret2
  exact ⟨v1, v2, rfl, O1'.out, own_base O2.out hs2, B2.out⟩
end Go.Proofs.Ytaajfekolokaoaa
namespace Go.Proofs.Ytaajfekolokaoaa
open Go.RowKit

set_option maxHeartbeats 1000000 in
theorem cell_any (tb cb n : Nat) (wide i j : Int) (k : Nat) (w : World) (c0 : w.cell? ⟨tb, 0, none⟩ = some (.int .i64 wide)) (c1 : w.cell? ⟨tb, 1, none⟩ = some (.slice (some ⟨cb, 0, none⟩) n n))
    (hw : 0 ≤ wide) (hi : 0 ≤ i) (hj : 0 ≤ j) (hk : i * wide + j = k) (hn : k < n) (hb : n ≤ 8388608) :
    Calls Try.prog 51 #[.pointer (some ⟨tb, 0, none⟩), .int .i64 i, .int .i64 j] w fun e w' => e = .returned (.pointer (some ⟨cb, k, none⟩)) ∧ ∃ m, w' = w.drewN m := by
  have hp0 : 0 ≤ i * wide := Int.mul_nonneg hi hw
  obtain ⟨p, hp⟩ : ∃ p, i * wide = p := ⟨_, rfl⟩
  rw [hp] at hk hp0
  have h1 : IntKind.i64.wrap (i * wide) = p := by rw [hp]; exact IntWalk.i64_in _ (by omega)
  have h2 : IntKind.i64.wrap (p + j) = (k : Int) := by rw [hk]; exact IntWalk.i64_in _ (by omega)
  have h3 : (0 : Int) ≤ (k : Int) := by omega
  have h4 : (k : Int) < (n : Int) := by omega
  clear hp hk hp0 hi hj
  go_enter Try.func51, Try.ntmps51
  go_wp2_with fail
  go_quiet (fail)
  go_wp2_with fail
  go_ret
  exact ⟨rfl, nq, rfl⟩
/-- A table in memory: its cells are these numbers. -/
structure Tab (w : World) (tb cb : Nat) (wide : Int) (n : Nat) (f : Nat → Nat) : Prop where
  c0 : w.cell? ⟨tb, 0, none⟩ = some (.int .i64 wide)
  c1 : w.cell? ⟨tb, 1, none⟩ = some (.slice (some ⟨cb, 0, none⟩) n n)
  ne : tb ≠ cb
  lt : tb < w.heap.size ∧ cb < w.heap.size
  cs : ∀ k, k < n → w.cell? ⟨cb, k, none⟩ = some (.int .i64 (f k : Nat))
  fr : ∀ k, w.frozen? ⟨cb, k, none⟩ = false
theorem Tab.kept {w w' : World} {tb cb n : Nat} {wide : Int} {f : Nat → Nat} (h : Tab w tb cb wide n f) (h1 : w'.heap[tb]? = w.heap[tb]?) (h2 : w'.heap[cb]? = w.heap[cb]?) (hs : w.heap.size ≤ w'.heap.size) : Tab w' tb cb wide n f :=
  ⟨(World.cell?_of_block (w := w) h1).trans h.c0, (World.cell?_of_block (w := w) h1).trans h.c1, h.ne, ⟨by have := h.lt.1; omega, by have := h.lt.2; omega⟩, fun k hk => (World.cell?_of_block (w := w) h2).trans (h.cs k hk), fun k => (World.frozen?_of_block (w := w) h2).trans (h.fr k)⟩
theorem Tab.drewN {w : World} {tb cb n : Nat} {wide : Int} {f : Nat → Nat} (h : Tab w tb cb wide n f) (m : Nat) : Tab (w.drewN m) tb cb wide n f := h.kept rfl rfl (Nat.le_refl _)
theorem Tab.set {w : World} {tb cb n : Nat} {wide : Int} {f : Nat → Nat} (h : Tab w tb cb wide n f) {k : Nat} (hk : k < n) (x : Nat) {xi : Int} (hx : xi = (x : Int)) : Tab (w.setCell ⟨cb, k, none⟩ (.int .i64 xi)) tb cb wide n (fun m => if m = k then x else f m) := by
  subst hx
  have ht : (w.setCell ⟨cb, k, none⟩ (.int .i64 (x : Int))).heap[tb]? = w.heap[tb]? := Below.heap_setCell _ _ _ _ (fun e => h.ne e)
  refine ⟨(World.cell?_of_block (w := w) ht).trans h.c0, (World.cell?_of_block (w := w) ht).trans h.c1, h.ne, by simpa using h.lt, fun m hm => ?_, fun m => by rw [World.frozen?_setCell]; exact h.fr m⟩
  by_cases e : m = k
  · subst e; rw [if_pos rfl]; exact World.cell?_setCell_same _ _ _ (h.cs _ hm)
  · rw [if_neg e, World.cell?_setCell_other _ _ _ _ (by intro c; injection c with _ c _; exact e c.symm)]; exact h.cs m hm
theorem Tab.made {w w1 : World} {n B : Nat} {wide : Int} (hown : w1.ownsRow B 3 1 (.slice (some ⟨w.heap.size, 0, none⟩) n n) n (madeCells (Value.int .i64 0).cells (n * 1)).toList) (hlt : w.heap.size < w1.heap.size) :
    Tab (w1.alloc (.cells #[.int .i64 wide, .slice (some ⟨w.heap.size, 0, none⟩) n n] 115)) w1.heap.size w.heap.size wide n (fun _ => 0) := by
  refine ⟨by rw [World.cell?_alloc_mark]; rfl, by rw [World.cell?_alloc_mark]; rfl, by omega, ⟨by simp, by simp; omega⟩, fun k hk => ?_, fun k => ?_⟩
  · rw [World.cell?_of_block (w := w1) (Below.heap_alloc _ _ _ hlt), hown.cellAt k (by omega)]
    show (madeCells #[Value.int .i64 0] (n * 1)).toList[k]? = _
    rw [toList_madeCells_one, List.getElem?_replicate, if_pos (by omega)]; rfl
  · rw [World.frozen?_of_block (w := w1) (Below.heap_alloc _ _ _ hlt), hown.frozenAt k]
/-- How far a table is right: from place (i, j) on, line by line. -/
def TabTo (a b : List Nat) (f : Nat → Nat) (i j : Int) : Prop := ∀ p q : Nat, p ≤ a.length → q ≤ b.length → (i < p ∨ (i = p ∧ j < q) ∨ q = b.length ∨ p = a.length) → f (p * (b.length + 1) + q) = lcs (a.drop p) (b.drop q)
theorem place_inj {m p q p' q' : Nat} (hq : q < m) (hq' : q' < m) (h : p * m + q = p' * m + q') : p = p' ∧ q = q' := by
  have h1 : (q + m * p) / m = p := by rw [Nat.add_mul_div_left _ _ (by omega), Nat.div_eq_of_lt hq, Nat.zero_add]
  have h2 : (q' + m * p') / m = p' := by rw [Nat.add_mul_div_left _ _ (by omega), Nat.div_eq_of_lt hq', Nat.zero_add]
  have e : q + m * p = q' + m * p' := by rw [Nat.mul_comm m p, Nat.mul_comm m p']; omega
  rw [e] at h1
  have hp : p = p' := h1.symm.trans h2
  subst hp
  exact ⟨rfl, by omega⟩
theorem place_lt {la lb p q : Nat} (hp : p ≤ la) (hq : q ≤ lb) : p * (lb + 1) + q < (la + 1) * (lb + 1) := by
  have := Nat.mul_le_mul_right (lb + 1) hp
  rw [Nat.add_mul]; omega
theorem TabTo.step {a b : List Nat} {f : Nat → Nat} {i j : Nat} (h : TabTo a b f i j) (hi : i < a.length) (hj : j < b.length) : TabTo a b (fun m => if m = i * (b.length + 1) + j then lcs (a.drop i) (b.drop j) else f m) i ((j : Int) - 1) := by
  intro p q hp hq hc
  by_cases e : p * (b.length + 1) + q = i * (b.length + 1) + j
  · obtain ⟨rfl, rfl⟩ := place_inj (by omega) (by omega) e
    simp
  · simp only [if_neg e]
    apply h p q hp hq
    rcases hc with h | ⟨h1, h2⟩ | h | h
    · exact Or.inl h
    · have : p = i := by omega
      subst this
      have : q ≠ j := fun k => e (by rw [k])
      exact Or.inr (Or.inl ⟨rfl, by omega⟩)
    · exact Or.inr (Or.inr (Or.inl h))
    · exact Or.inr (Or.inr (Or.inr h))
theorem TabTo.down {a b : List Nat} {f : Nat → Nat} {i : Nat} (h : TabTo a b f i (-1)) : TabTo a b f ((i : Int) - 1) ((b.length : Int) - 1) := by
  intro p q hp hq hc
  apply h p q hp hq
  rcases hc with h | ⟨h1, h2⟩ | h | h
  · by_cases e : (i : Int) = p
    · exact Or.inr (Or.inl ⟨e, by omega⟩)
    · exact Or.inl (by omega)
  · exact Or.inr (Or.inr (Or.inl (by omega)))
  · exact Or.inr (Or.inr (Or.inl h))
  · exact Or.inr (Or.inr (Or.inr h))
theorem TabTo.start {a b : List Nat} {f : Nat → Nat} (h : ∀ k, f k = 0) : TabTo a b f ((a.length : Int) - 1) ((b.length : Int) - 1) := by
  intro p q hp hq hc
  rw [h]
  rcases hc with h | ⟨h1, h2⟩ | h | h
  · rw [List.drop_eq_nil_of_le (show a.length ≤ p by omega)]; rfl
  · rw [List.drop_eq_nil_of_le (show b.length ≤ q by omega), lcs_none]
  · rw [h, List.drop_length, lcs_none]
  · rw [h, List.drop_length]; rfl
theorem lcs_at {a b : List Nat} {i j : Nat} (hi : i < a.length) (hj : j < b.length) : lcs (a.drop i) (b.drop j) = if a.getD i 0 = b.getD j 0 then lcs (a.drop (i + 1)) (b.drop (j + 1)) + 1 else max (lcs (a.drop (i + 1)) (b.drop j)) (lcs (a.drop i) (b.drop (j + 1))) := by
  rw [List.drop_eq_getElem_cons hi, List.drop_eq_getElem_cons hj, lcs_best, getD_at hi, getD_at hj]
theorem lcs_drop_le (a b : List Nat) (i j : Nat) : lcs (a.drop i) (b.drop j) ≤ a.length := by
  have := (lcs_len (a.drop i) (b.drop j)).1
  simp at this; omega
end Go.Proofs.Ytaajfekolokaoaa
namespace Go.Proofs.Ytaajfekolokaoaa
open Go.RowKit

/-- What common leaves. -/
def CommonP (w : World) (a b : List Nat) (n : Nat) (e : Ending) (w' : World) : Prop := ∃ tb cb f, e = .returned (.pointer (some ⟨tb, 0, none⟩)) ∧ Tab w' tb cb ((b.length : Int) + 1) n f ∧ TabTo a b f (-1) (-1) ∧ Below w.heap.size w w'
set_option maxRecDepth 100000 in
set_option maxHeartbeats 8000000 in
theorem common_any (S T : Nat → Prop) (va vb : Value) (a b : List Nat) (n : Nat) (w : World) (hS : ∀ k, S k → k < w.heap.size) (hT : ∀ k, T k → k < w.heap.size) (ha : IntsC S w va a) (hb : IntsC T w vb b) (hal : a.length ≤ 4194304) (hbl : b.length ≤ 4194304)
    (hn : (a.length + 1) * (b.length + 1) = n) (hnb : n ≤ 8388608) :
    Calls Try.prog 50 #[va, vb] w (CommonP w a b n) := by
  obtain ⟨i0, hi, hz0, hz1, hz2⟩ := info_parts Try.info3i
  obtain ⟨aa, ac, rfl⟩ := ha.shape
  obtain ⟨ba, bc, rfl⟩ := hb.shape
  have HS := Lib.hid hS
  have HT := Lib.hid hT
  have HA := Lib.hid ha
  have HB := Lib.hid hb
  have hmul : ((a.length : Int) + 1) * ((b.length : Int) + 1) = (n : Int) := by rw [← hn]; push_cast; rfl
  clear hS hT ha hb
  have HN := Lib.hid hn
  clear hn
  go_enter Try.func50, Try.ntmps50
  go_wp2_with (at_make; refine wpList_make_full _ rfl _ _ 80 rfl w.heap.size 3 i0 (.int .i64 0) 1 Try.underlying80 hi hz0 hz1 .i64 .i64 _ _ n rfl rfl (by omega) (by omega) (by rw [hz2]; omega) (by unfold maxLen; omega) (by simp) ?_; intro w1 hown hgrow)
  have hlt1 : w.heap.size < w1.heap.size := (hown.lt _ rfl).2
  have HT0 := Lib.hid (Tab.made (wide := (b.length : Int) + 1) hown hlt1)
  have HB0 : Hid (Below w.heap.size w (w1.alloc (.cells #[.int .i64 ((b.length : Int) + 1), .slice (some ⟨w.heap.size, 0, none⟩) n n] 115))) := Lib.hid (((Below.refl w.heap.size w).grown hgrow (Nat.le_refl _) (fun j hj => by cases hj)).alloc (by omega) _)
  clear hown hgrow hmul
  generalize w1.alloc (.cells #[.int .i64 ((b.length : Int) + 1), .slice (some ⟨w.heap.size, 0, none⟩) n n] 115) = w2 at *
  generalize w1.heap.size = tb at *
  obtain ⟨cb, hcb⟩ : ∃ cb, w.heap.size = cb := ⟨_, rfl⟩
  have HCB := Lib.hid hcb
  rw [hcb] at HT0
  rw [hcb]
  clear hcb hlt1
  go_loopw [7] (fun i wr => ∃ (x : Int) (f : Nat → Nat), -1 ≤ x ∧ x < a.length ∧ i = .int .i64 x ∧ Hid (Tab wr tb cb ((b.length : Int) + 1) n f) ∧ Hid (TabTo a b f x ((b.length : Int) - 1)) ∧ Hid (Below w.heap.size w wr)) (fun i _ => (intOf i + 1).toNat)
  case atStart => exact ⟨(a.length : Int) - 1, _, by omega, by omega, rfl, HT0, Lib.hid (TabTo.start (fun _ => rfl)), HB0⟩
  case round =>
    obtain ⟨x, f, hx1, hx2, rfl, hT, hTo, hW⟩ := hrel
    by_cases hx0 : 0 ≤ x
    · obtain ⟨m, rfl⟩ : ∃ m : Nat, x = m := ⟨x.toNat, by omega⟩
      obtain ⟨wo, rfl⟩ : ∃ wo : World, wo = wr := ⟨_, rfl⟩
      go_wp2_with fail
      go_loopw [8] (fun j wr => ∃ (y : Int) (f : Nat → Nat), -1 ≤ y ∧ y < b.length ∧ j = .int .i64 y ∧ Hid (Tab wr tb cb ((b.length : Int) + 1) n f) ∧ Hid (TabTo a b f m y) ∧ Hid (Below w.heap.size w wr)) (fun j _ => (intOf j + 1).toNat)
      case atStart => exact ⟨(b.length : Int) - 1, f, by omega, by omega, rfl, hT, hTo, hW⟩
      case round =>
        obtain ⟨y, f2, hy1, hy2, rfl, hT2, hTo2, hW2⟩ := hrel
        clear hT hTo hW
        by_cases hy0 : 0 ≤ y
        · obtain ⟨q, rfl⟩ : ∃ q : Nat, y = q := ⟨y.toNat, by omega⟩
          have hma : m < a.length := by omega
          have hqb : q < b.length := by omega
          obtain ⟨ga, oa, rfl, hSa, _, _, hca⟩ := HA.out.at (by omega)
          obtain ⟨gb, ob, rfl, hSb, _, _, hcb⟩ := HB.out.at (by omega)
          have c1 := (hW2.out.cell (p := ⟨ga, oa + m, none⟩) (HS.out _ hSa)).trans (hca m hma)
          have c2 := (hW2.out.cell (p := ⟨gb, ob + q, none⟩) (HT.out _ hSb)).trans (hcb q hqb)
          have HL := Lib.hid (lcs_at hma hqb)
          have HT2s := Lib.hid (hTo2.out.step hma hqb)
          have HP1 := Lib.hid (hTo2.out (m + 1) (q + 1) (by omega) (by omega) (Or.inl (by omega)))
          have HP2 := Lib.hid (hTo2.out (m + 1) q (by omega) (by omega) (Or.inl (by omega)))
          have HP3 := Lib.hid (hTo2.out m (q + 1) (by omega) (by omega) (Or.inr (Or.inl ⟨rfl, by omega⟩)))
          have hl11 := lcs_drop_le a b (m + 1) (q + 1)
          have hl12 := lcs_drop_le a b (m + 1) q
          have hl21 := lcs_drop_le a b m (q + 1)
          have l0 : m * (b.length + 1) + q < n := by have := place_lt (la := a.length) (lb := b.length) (p := m) (q := q) (by omega) (by omega); have := HN.out; omega
          have l11 : (m + 1) * (b.length + 1) + (q + 1) < n := by have := place_lt (la := a.length) (lb := b.length) (p := m + 1) (q := q + 1) (by omega) (by omega); have := HN.out; omega
          have l1 : (m + 1) * (b.length + 1) + q < n := by have := place_lt (la := a.length) (lb := b.length) (p := m + 1) (q := q) (by omega) (by omega); have := HN.out; omega
          have l2 : m * (b.length + 1) + (q + 1) < n := by have := place_lt (la := a.length) (lb := b.length) (p := m) (q := q + 1) (by omega) (by omega); have := HN.out; omega
          have E0 : Hid ((m : Int) * ((b.length : Int) + 1) + (q : Int) = ((m * (b.length + 1) + q : Nat) : Int)) := Lib.hid (by push_cast; rfl)
          have E11 : Hid (((m : Int) + 1) * ((b.length : Int) + 1) + ((q : Int) + 1) = (((m + 1) * (b.length + 1) + (q + 1) : Nat) : Int)) := Lib.hid (by push_cast; rfl)
          have E1 : Hid (((m : Int) + 1) * ((b.length : Int) + 1) + (q : Int) = (((m + 1) * (b.length + 1) + q : Nat) : Int)) := Lib.hid (by push_cast; rfl)
          have E2 : Hid ((m : Int) * ((b.length : Int) + 1) + ((q : Int) + 1) = ((m * (b.length + 1) + (q + 1) : Nat) : Int)) := Lib.hid (by push_cast; rfl)
          have L0 := Lib.hid l0
          have L11 := Lib.hid l11
          have L1 := Lib.hid l1
          have L2 := Lib.hid l2
          clear l0 l11 l1 l2 hca hcb
          generalize m * (b.length + 1) + q = k0 at *
          generalize (m + 1) * (b.length + 1) + (q + 1) = k11 at *
          generalize (m + 1) * (b.length + 1) + q = k1 at *
          generalize m * (b.length + 1) + (q + 1) = k2 at *
          generalize lcs (a.drop (m + 1)) (b.drop (q + 1)) = x11 at *
          generalize lcs (a.drop (m + 1)) (b.drop q) = x1 at *
          generalize lcs (a.drop m) (b.drop (q + 1)) = x2 at *
          generalize lcs (a.drop m) (b.drop q) = x0 at *
          by_cases he : a.getD m 0 = b.getD q 0
          · have HX0 : Hid (x0 = x11 + 1) := Lib.hid (HL.out.trans (if_pos he))
            have ge : ((a.getD m 0 : Int) == (b.getD q 0 : Int)) = true := by rw [he]; simp
            generalize a.getD m 0 = ua at *
            generalize b.getD q 0 = ub at *
            clear he HL
            go_wp2_with fail
            go_quiet (fail)
            have T3 : Hid (Tab (wr.drewN nq) tb cb ((b.length : Int) + 1) n f2) := Lib.hid (hT2.out.drewN nq)
            have W3 := Lib.hid (hW2.out.trans (drewn w.heap.size wr nq))
            clear c1 c2 hT2 hW2
            generalize wr.drewN nq = wq at *
            have t0 := T3.out.c0
            have t1 := T3.out.c1
            have d11 := T3.out.cs k11 L11.out
            have d0 := T3.out.cs k0 L0.out
            have fr0 := T3.out.fr k0
            rw [HP1.out] at d11
            go_wp2_with fail
            refine (cell_any tb cb n _ _ _ k0 _ t0 t1 (by omega) (by omega) (by omega) E0.out L0.out hnb).mono ?_
            rintro e w4 ⟨rfl, n4, rfl⟩
            go_wp2_with fail
            refine (cell_any tb cb n _ _ _ k11 (wq.drewN n4) t0 t1 (by omega) (by omega) (by omega) E11.out L11.out hnb).mono ?_
            rintro e w5 ⟨rfl, n5, rfl⟩
            go_wp2_with fail
            have T6 := Lib.hid ((T3.out.drewN (n4 + n5)).set L0.out x0 (show (x11 : Int) + 1 = (x0 : Nat) by rw [HX0.out]; push_cast; rfl))
            have W6 : Hid (Below w.heap.size w (((wq.drewN (n4 + n5)).setCell ⟨cb, k0, none⟩ (.int .i64 ((x11 : Int) + 1))))) := Lib.hid ((W3.out.trans (drewn w.heap.size wq (n4 + n5))).setCell (by have := HCB.out; show w.heap.size ≤ cb; omega) _)
            go_roundw
            case rel => exact ⟨(q : Int) - 1, _, by omega, by omega, rfl, T6, HT2s, W6⟩
            case measure => simp [intOf]
          · have HX0 : Hid (x0 = max x1 x2) := Lib.hid (HL.out.trans (if_neg he))
            have ge : ((a.getD m 0 : Int) == (b.getD q 0 : Int)) = false := by rw [beq_eq_false_iff_ne]; omega
            generalize a.getD m 0 = ua at *
            generalize b.getD q 0 = ub at *
            clear he HL
            go_wp2_with fail
            go_quiet (fail)
            have T3 : Hid (Tab (wr.drewN nq) tb cb ((b.length : Int) + 1) n f2) := Lib.hid (hT2.out.drewN nq)
            have W3 := Lib.hid (hW2.out.trans (drewn w.heap.size wr nq))
            clear c1 c2 hT2 hW2
            generalize wr.drewN nq = wq at *
            have t0 := T3.out.c0
            have t1 := T3.out.c1
            have d1 := T3.out.cs k1 L1.out
            have d2 := T3.out.cs k2 L2.out
            have d0 := T3.out.cs k0 L0.out
            have fr0 := T3.out.fr k0
            rw [HP2.out] at d1
            rw [HP3.out] at d2
            have hw1 : IntKind.i64.wrap ((m : Int) + 1) = (m : Int) + 1 := IntWalk.i64_in _ (by omega)
            have hw2 : IntKind.i64.wrap ((q : Int) + 1) = (q : Int) + 1 := IntWalk.i64_in _ (by omega)
            go_wp2_with fail
            refine wp_region_D 20 (fun W => W.cell? ⟨tb, 0, none⟩ = some (.int .i64 ((b.length : Int) + 1)) ∧ W.cell? ⟨tb, 1, none⟩ = some (.slice (some ⟨cb, 0, none⟩) n n) ∧ W.cell? ⟨cb, k1, none⟩ = some (.int .i64 (x1 : Nat)) ∧ W.cell? ⟨cb, k2, none⟩ = some (.int .i64 (x2 : Nat))) (by kernel_rfl) (by kernel_rfl) (by kernel_rfl) ?_
            have hSd := (show wq.drew.cell? ⟨tb, 0, none⟩ = some (.int .i64 ((b.length : Int) + 1)) ∧ wq.drew.cell? ⟨tb, 1, none⟩ = some (.slice (some ⟨cb, 0, none⟩) n n) ∧ wq.drew.cell? ⟨cb, k1, none⟩ = some (.int .i64 (x1 : Nat)) ∧ wq.drew.cell? ⟨cb, k2, none⟩ = some (.int .i64 (x2 : Nat)) from ⟨t0, t1, d1, d2⟩)
            refine wpAnyD_take (i := 0) (oi := ⟨_, _, _, _, _, _⟩) (v := ?_) rfl (by kernel_rfl) (by kernel_rfl) (by kernel_rfl) (by kernel_rfl) (fun _ _ _ h => h) (fun _ _ h => h) (Or.inl (Or.inl ⟨by rfl, ?_⟩)) hSd ?_
            rotate_left
            · intro W hSw; (try dsimp only at hSw); first | (go_simp; done) | (go_simp; with_reducible rfl)
            try simp only [Act.put, List.setIfInBounds_toArray, List.set_cons_zero, List.set_cons_succ]
            refine wpAnyD_take (i := 1) (oi := ⟨_, _, _, _, _, _⟩) (v := ?_) rfl (by kernel_rfl) (by kernel_rfl) (by kernel_rfl) (by kernel_rfl) (fun _ _ _ h => h) (fun _ _ h => h) (Or.inl (Or.inl ⟨by rfl, ?_⟩)) hSd ?_
            rotate_left
            · intro W hSw; (try dsimp only at hSw); first | (go_simp; done) | (go_simp; with_reducible rfl)
            try simp only [Act.put, List.setIfInBounds_toArray, List.set_cons_zero, List.set_cons_succ]
            refine wpAnyD_take (i := 2) (oi := ⟨_, _, _, _, _, _⟩) (v := ?_) rfl (by kernel_rfl) (by kernel_rfl) (by kernel_rfl) (by kernel_rfl) (fun _ _ _ h => h) (fun _ _ h => h) (Or.inl (Or.inl ⟨by rfl, ?_⟩)) hSd ?_
            rotate_left
            · intro W hSw; (try dsimp only at hSw); first | (go_simp; done) | (go_simp; with_reducible rfl)
            try simp only [Act.put, List.setIfInBounds_toArray, List.set_cons_zero, List.set_cons_succ]
            refine wpAnyD_take (i := 3) (oi := ⟨_, _, _, _, _, _⟩) (v := .pointer (some ⟨cb, k0, none⟩)) rfl (by kernel_rfl) (by kernel_rfl) (by kernel_rfl) (by kernel_rfl) (fun _ _ _ h => h) (fun _ _ h => h) (Or.inr ⟨by rfl, fun W hW => ⟨51, #[.pointer (some ⟨tb, 0, none⟩), .int .i64 ((m : Int)), .int .i64 ((q : Int))], ?_, cell_any tb cb n _ _ _ k0 W hW.1 hW.2.1 (by omega) (by omega) (by omega) E0.out L0.out hnb⟩⟩) hSd ?_
            · first | (go_simp; done) | (go_simp; with_reducible rfl)
            try simp only [Act.put, List.setIfInBounds_toArray, List.set_cons_zero, List.set_cons_succ]
            refine wpAnyD_take (i := 4) (oi := ⟨_, _, _, _, _, _⟩) (v := ?_) rfl (by kernel_rfl) (by kernel_rfl) (by kernel_rfl) (by kernel_rfl) (fun _ _ _ h => h) (fun _ _ h => h) (Or.inl (Or.inl ⟨by rfl, ?_⟩)) hSd ?_
            rotate_left
            · intro W hSw; (try dsimp only at hSw); first | (go_simp; done) | (go_simp; with_reducible rfl)
            try simp only [Act.put, List.setIfInBounds_toArray, List.set_cons_zero, List.set_cons_succ]
            refine wpAnyD_take (i := 5) (oi := ⟨_, _, _, _, _, _⟩) (v := ?_) rfl (by kernel_rfl) (by kernel_rfl) (by kernel_rfl) (by kernel_rfl) (fun _ _ _ h => h) (fun _ _ h => h) (Or.inl (Or.inl ⟨by rfl, ?_⟩)) hSd ?_
            rotate_left
            · intro W hSw; (try dsimp only at hSw); first | (go_simp; done) | (go_simp; with_reducible rfl)
            try simp only [Act.put, List.setIfInBounds_toArray, List.set_cons_zero, List.set_cons_succ]
            refine wpAnyD_take (i := 6) (oi := ⟨_, _, _, _, _, _⟩) (v := ?_) rfl (by kernel_rfl) (by kernel_rfl) (by kernel_rfl) (by kernel_rfl) (fun _ _ _ h => h) (fun _ _ h => h) (Or.inl (Or.inl ⟨by rfl, ?_⟩)) hSd ?_
            rotate_left
            · intro W hSw; (try dsimp only at hSw); first | (go_simp; done) | (go_simp; with_reducible rfl)
            try simp only [Act.put, List.setIfInBounds_toArray, List.set_cons_zero, List.set_cons_succ]
            refine wpAnyD_take (i := 7) (oi := ⟨_, _, _, _, _, _⟩) (v := ?_) rfl (by kernel_rfl) (by kernel_rfl) (by kernel_rfl) (by kernel_rfl) (fun _ _ _ h => h) (fun _ _ h => h) (Or.inl (Or.inl ⟨by rfl, ?_⟩)) hSd ?_
            rotate_left
            · intro W hSw; (try dsimp only at hSw); first | (go_simp; done) | (go_simp; with_reducible rfl)
            try simp only [Act.put, List.setIfInBounds_toArray, List.set_cons_zero, List.set_cons_succ]
            refine wpAnyD_take (i := 8) (oi := ⟨_, _, _, _, _, _⟩) (v := .pointer (some ⟨cb, k1, none⟩)) rfl (by kernel_rfl) (by kernel_rfl) (by kernel_rfl) (by kernel_rfl) (fun _ _ _ h => h) (fun _ _ h => h) (Or.inr ⟨by rfl, fun W hW => ⟨51, #[.pointer (some ⟨tb, 0, none⟩), .int .i64 ((m : Int) + 1), .int .i64 ((q : Int))], ?_, cell_any tb cb n _ _ _ k1 W hW.1 hW.2.1 (by omega) (by omega) (by omega) E1.out L1.out hnb⟩⟩) hSd ?_
            · first | (go_simp; done) | (go_simp; with_reducible rfl)
            try simp only [Act.put, List.setIfInBounds_toArray, List.set_cons_zero, List.set_cons_succ]
            refine wpAnyD_take (i := 9) (oi := ⟨_, _, _, _, _, _⟩) (v := ?_) rfl (by kernel_rfl) (by kernel_rfl) (by kernel_rfl) (by kernel_rfl) (fun _ _ _ h => h) (fun _ _ h => h) (Or.inl (Or.inl ⟨by rfl, ?_⟩)) hSd ?_
            rotate_left
            · intro W hSw; (try dsimp only at hSw); first | (go_simp; done) | (go_simp; with_reducible rfl)
            try simp only [Act.put, List.setIfInBounds_toArray, List.set_cons_zero, List.set_cons_succ]
            refine wpAnyD_take (i := 10) (oi := ⟨_, _, _, _, _, _⟩) (v := ?_) rfl (by kernel_rfl) (by kernel_rfl) (by kernel_rfl) (by kernel_rfl) (fun _ _ _ h => h) (fun _ _ h => h) (Or.inl (Or.inl ⟨by rfl, ?_⟩)) hSd ?_
            rotate_left
            · intro W hSw; (try dsimp only at hSw); first | (go_simp; done) | (go_simp; with_reducible rfl)
            try simp only [Act.put, List.setIfInBounds_toArray, List.set_cons_zero, List.set_cons_succ]
            refine wpAnyD_take (i := 11) (oi := ⟨_, _, _, _, _, _⟩) (v := ?_) rfl (by kernel_rfl) (by kernel_rfl) (by kernel_rfl) (by kernel_rfl) (fun _ _ _ h => h) (fun _ _ h => h) (Or.inl (Or.inl ⟨by rfl, ?_⟩)) hSd ?_
            rotate_left
            · intro W hSw; (try dsimp only at hSw); first | (go_simp; done) | (go_simp; with_reducible rfl)
            try simp only [Act.put, List.setIfInBounds_toArray, List.set_cons_zero, List.set_cons_succ]
            refine wpAnyD_take (i := 12) (oi := ⟨_, _, _, _, _, _⟩) (v := ?_) rfl (by kernel_rfl) (by kernel_rfl) (by kernel_rfl) (by kernel_rfl) (fun _ _ _ h => h) (fun _ _ h => h) (Or.inl (Or.inl ⟨by rfl, ?_⟩)) hSd ?_
            rotate_left
            · intro W hSw; (try dsimp only at hSw); first | (go_simp; done) | (go_simp; with_reducible rfl)
            try simp only [Act.put, List.setIfInBounds_toArray, List.set_cons_zero, List.set_cons_succ]
            refine wpAnyD_take (i := 13) (oi := ⟨_, _, _, _, _, _⟩) (v := ?_) rfl (by kernel_rfl) (by kernel_rfl) (by kernel_rfl) (by kernel_rfl) (fun _ _ _ h => h) (fun _ _ h => h) (Or.inl (Or.inl ⟨by rfl, ?_⟩)) hSd ?_
            rotate_left
            · intro W hSw; (try dsimp only at hSw); first | (go_simp; done) | (go_simp; with_reducible rfl)
            try simp only [Act.put, List.setIfInBounds_toArray, List.set_cons_zero, List.set_cons_succ]
            refine wpAnyD_take (i := 14) (oi := ⟨_, _, _, _, _, _⟩) (v := ?_) rfl (by kernel_rfl) (by kernel_rfl) (by kernel_rfl) (by kernel_rfl) (fun _ _ _ h => h) (fun _ _ h => h) (Or.inl (Or.inl ⟨by rfl, ?_⟩)) hSd ?_
            rotate_left
            · intro W hSw; (try dsimp only at hSw); first | (go_simp; done) | (go_simp; with_reducible rfl)
            try simp only [Act.put, List.setIfInBounds_toArray, List.set_cons_zero, List.set_cons_succ]
            refine wpAnyD_take (i := 15) (oi := ⟨_, _, _, _, _, _⟩) (v := .pointer (some ⟨cb, k2, none⟩)) rfl (by kernel_rfl) (by kernel_rfl) (by kernel_rfl) (by kernel_rfl) (fun _ _ _ h => h) (fun _ _ h => h) (Or.inr ⟨by rfl, fun W hW => ⟨51, #[.pointer (some ⟨tb, 0, none⟩), .int .i64 ((m : Int)), .int .i64 ((q : Int) + 1)], ?_, cell_any tb cb n _ _ _ k2 W hW.1 hW.2.1 (by omega) (by omega) (by omega) E2.out L2.out hnb⟩⟩) hSd ?_
            · first | (go_simp; done) | (go_simp; with_reducible rfl)
            try simp only [Act.put, List.setIfInBounds_toArray, List.set_cons_zero, List.set_cons_succ]
            refine wpAnyD_take (i := 16) (oi := ⟨_, _, _, _, _, _⟩) (v := ?_) rfl (by kernel_rfl) (by kernel_rfl) (by kernel_rfl) (by kernel_rfl) (fun _ _ _ h => h) (fun _ _ h => h) (Or.inl (Or.inl ⟨by rfl, ?_⟩)) hSd ?_
            rotate_left
            · intro W hSw; (try dsimp only at hSw); first | (go_simp; done) | (go_simp; with_reducible rfl)
            try simp only [Act.put, List.setIfInBounds_toArray, List.set_cons_zero, List.set_cons_succ]
            refine wpAnyD_take (i := 17) (oi := ⟨_, _, _, _, _, _⟩) (v := ?_) rfl (by kernel_rfl) (by kernel_rfl) (by kernel_rfl) (by kernel_rfl) (fun _ _ _ h => h) (fun _ _ h => h) (Or.inl (Or.inl ⟨by rfl, ?_⟩)) hSd ?_
            rotate_left
            · intro W hSw; (try dsimp only at hSw); first | (go_simp; done) | (go_simp; with_reducible rfl)
            try simp only [Act.put, List.setIfInBounds_toArray, List.set_cons_zero, List.set_cons_succ]
            refine wpAnyD_take (i := 18) (oi := ⟨_, _, _, _, _, _⟩) (v := ?_) rfl (by kernel_rfl) (by kernel_rfl) (by kernel_rfl) (by kernel_rfl) (fun _ _ _ h => h) (fun _ _ h => h) (Or.inl (Or.inl ⟨by rfl, ?_⟩)) hSd ?_
            rotate_left
            · intro W hSw; (try dsimp only at hSw); first | (go_simp; done) | (go_simp; with_reducible rfl)
            try simp only [Act.put, List.setIfInBounds_toArray, List.set_cons_zero, List.set_cons_succ]
            refine wpAnyD_take (i := 19) (oi := ⟨_, _, _, _, _, _⟩) (v := ?_) rfl (by kernel_rfl) (by kernel_rfl) (by kernel_rfl) (by kernel_rfl) (fun _ _ _ h => h) (fun _ _ h => h) (Or.inl (Or.inl ⟨by rfl, ?_⟩)) hSd ?_
            rotate_left
            · intro W hSw; (try dsimp only at hSw); first | (go_simp; done) | (go_simp; with_reducible rfl)
            try simp only [Act.put, List.setIfInBounds_toArray, List.set_cons_zero, List.set_cons_succ]
            refine wpAnyD_last (by kernel_rfl) (fun nd => ?_)
            refine wpOp_one rfl (by rfl) ?_
            have d0' : (wq.drew.drewN nd).cell? ⟨cb, k0, none⟩ = some (.int .i64 (f2 k0 : Nat)) := d0
            have fr0' : (wq.drew.drewN nd).frozen? ⟨cb, k0, none⟩ = false := fr0
            have T5 : Hid (Tab (wq.drew.drewN nd) tb cb ((b.length : Int) + 1) n f2) := Lib.hid ((T3.out.drewN 1).drewN nd)
            have W5 : Hid (Below w.heap.size w (wq.drew.drewN nd)) := Lib.hid ((W3.out.trans (drewn w.heap.size wq 1)).trans (drewn w.heap.size (wq.drewN 1) nd))
            change Oper.wp _ _ _ (wq.drew.drewN nd) _ _
            generalize wq.drew.drewN nd = wd at *
            clear hSd d1 d2 t0 t1 d0 fr0
            go_simp
            go_wp2_with fail
            have T6 := Lib.hid (T5.out.set L0.out x0 (show max (x1 : Int) (x2 : Int) = (x0 : Nat) by rw [HX0.out]; omega))
            have W6 : Hid (Below w.heap.size w (wd.setCell ⟨cb, k0, none⟩ (.int .i64 (max (x1 : Int) (x2 : Int))))) := Lib.hid (W5.out.setCell (by have := HCB.out; show w.heap.size ≤ cb; omega) _)
            go_roundw
            case rel => exact ⟨(q : Int) - 1, _, by omega, by omega, rfl, T6, HT2s, W6⟩
            case measure => simp [intOf]
        · obtain rfl : y = -1 := by omega
          have HD := Lib.hid hTo2.out.down
          go_wp2_with fail
          go_roundw
          case rel => exact ⟨(m : Int) - 1, f2, by omega, by omega, rfl, hT2, HD, hW2⟩
          case measure => simp [intOf]
    · obtain rfl : x = -1 := by omega
      have HD : Hid (TabTo a b f (-1) (-1)) := Lib.hid (fun p q hp hq _ => hTo.out p q hp hq (Or.inl (by omega)))
      go_wp2_with fail
      go_ret
      exact ⟨tb, cb, f, rfl, hT.out, HD.out, hW.out⟩
end Go.Proofs.Ytaajfekolokaoaa
namespace Go.Proofs.Ytaajfekolokaoaa
open Go.RowKit

/-- Pairs of places as cells. -/
def p2 (P : List (Nat × Nat)) : List Value := P.flatMap fun p => [.int .i64 (p.1 : Int), .int .i64 (p.2 : Int)]
theorem p2_append (P Q : List (Nat × Nat)) : p2 (P ++ Q) = p2 P ++ p2 Q := by unfold p2; simp
theorem p2_len (P : List (Nat × Nat)) : (p2 P).length = P.length * 2 := by
  induction P with
  | nil => rfl
  | cons p P ih => unfold p2 at ih ⊢; rw [List.flatMap_cons, List.length_append, ih]; simp; omega
theorem p2_one (P : List (Nat × Nat)) : ∀ u ∈ p2 P, u.oneCell' = true := by
  intro u hu
  unfold p2 at hu
  obtain ⟨p, _, hp⟩ := List.mem_flatMap.1 hu
  simp at hp
  rcases hp with rfl | rfl <;> rfl
theorem p2_at : ∀ (P : List (Nat × Nat)) (k : Nat), k < P.length → (p2 P)[k * 2]? = some (.int .i64 ((P.getD k (0, 0)).1 : Int)) ∧ (p2 P)[k * 2 + 1]? = some (.int .i64 ((P.getD k (0, 0)).2 : Int))
  | [], k, h => by simp at h
  | p :: P, 0, _ => ⟨rfl, rfl⟩
  | p :: P, k + 1, h => by
    have ih := p2_at P k (by simpa using h)
    have e : ∀ i, (p2 (p :: P))[(k + 1) * 2 + i]? = (p2 P)[k * 2 + i]? := fun i => by
      show ([Value.int .i64 (p.1 : Int), .int .i64 (p.2 : Int)] ++ p2 P)[(k + 1) * 2 + i]? = _
      rw [List.getElem?_append_right (by simp; omega)]
      congr 1
      simp; omega
    exact ⟨(e 0).trans ih.1, (e 1).trans ih.2⟩
def OwnP (w : World) (B : Nat) (v : Value) (P : List (Nat × Nat)) : Prop := w.ownsRow B 99 2 v P.length (p2 P)
def PairsC (S : Nat → Prop) (w : World) (v : Value) (P : List (Nat × Nat)) : Prop := CellsC S w v P.length 2 (p2 P)
theorem ownP_nil (w : World) (B : Nat) : OwnP w B (.slice none 0 0) [] := World.ownsRow_nil _ _ _ _
theorem ownP_push {w2 : World} {B : Nat} {v : Value} {P : List (Nat × Nat)} {x y : Nat} (h : w2.ownsRow B 99 2 v (P.length + 1) (p2 P ++ [.int .i64 (x : Int), .int .i64 (y : Int)])) : OwnP w2 B v (P ++ [(x, y)]) := by
  unfold OwnP
  rw [p2_append, List.length_append]; exact h
theorem ownP_slice {w : World} {B : Nat} {v : Value} {P : List (Nat × Nat)} (h : OwnP w B v P) : ∃ a cap, v = .slice a P.length cap := by
  rcases h.2 with ⟨e, hn⟩ | ⟨g, cap, cur, e, _⟩
  · rw [hn]; exact ⟨none, 0, e⟩
  · exact ⟨_, _, e⟩
theorem ownP_c {w : World} {B : Nat} {v : Value} {P : List (Nat × Nat)} (h : OwnP w B v P) : PairsC (fun k => B ≤ k ∧ k < w.heap.size) w v P := own_cells h (p2_one P)
theorem srcP_one (w : World) (x y : Int) : Src Try.prog 2 58 (.slice (some ⟨w.heap.size, 0, none⟩) 1 1) 1 [.int .i64 x, .int .i64 y] (w.alloc (.cells #[.int .i64 x, .int .i64 y] 99)) :=
  Src.ofSlice _ Try.underlying58 _ 1 1 _ rfl (fun j u hj => by
    rw [add_pos, Nat.zero_add, World.cell?_alloc_mark]; simpa using hj) (fun u hu => by
    simp at hu; rcases hu with rfl | rfl <;> rfl)
theorem Try.info99p : (Try.prog.info? 99).map (fun i => (i.zero, i.size, i.bytes)) = some (some (.agg #[.int .i64 0, .int .i64 0]), 2, 16) := by kernel_rfl
theorem walk_at {a b : List Nat} {i j : Nat} (hi : i < a.length) (hj : j < b.length) :
    (a.getD i 0 = b.getD j 0 → pairsN (a.drop i) i (b.drop j) j = (i, j) :: pairsN (a.drop (i + 1)) (i + 1) (b.drop (j + 1)) (j + 1)) ∧
    (a.getD i 0 ≠ b.getD j 0 → lcs (a.drop (i + 1)) (b.drop j) = lcs (a.drop i) (b.drop j) → pairsN (a.drop i) i (b.drop j) j = pairsN (a.drop (i + 1)) (i + 1) (b.drop j) j) ∧
    (a.getD i 0 ≠ b.getD j 0 → lcs (a.drop (i + 1)) (b.drop j) ≠ lcs (a.drop i) (b.drop j) → pairsN (a.drop i) i (b.drop j) j = pairsN (a.drop i) i (b.drop (j + 1)) (j + 1)) := by
  rw [getD_at hi, getD_at hj]
  have ea := List.drop_eq_getElem_cons hi
  have eb := List.drop_eq_getElem_cons hj
  refine ⟨fun e => ?_, fun e h => ?_, fun e h => ?_⟩
  · rw [ea, eb, e, pairsN_same]
  · rw [ea, eb] at h ⊢
    rw [pairsN_down e h]
  · rw [ea, eb] at h ⊢
    rw [pairsN_right e h]
/-- What walk, and Pairs, leave. -/
def PairsP (w : World) (P : List (Nat × Nat)) (e : Ending) (w' : World) : Prop := ∃ v, e = .returned v ∧ OwnP w' w.heap.size v P ∧ Below w.heap.size w w'
set_option maxRecDepth 100000 in
set_option maxHeartbeats 8000000 in
theorem walk_any (S T : Nat → Prop) (va vb : Value) (a b : List Nat) (n : Nat) (w : World) (hS : ∀ k, S k → k < w.heap.size) (hT : ∀ k, T k → k < w.heap.size) (ha : IntsC S w va a) (hb : IntsC T w vb b) (hal : a.length ≤ 4194304) (hbl : b.length ≤ 4194304)
    (hn : (a.length + 1) * (b.length + 1) = n) (hnb : n ≤ 8388608) :
    Calls Try.prog 38 #[va, vb] w (PairsP w (pairsN a 0 b 0)) := by
  obtain ⟨i0, hi, hz0, hz1, hz2⟩ := info_parts Try.info99p
  have HC := Lib.hid (common_any S T va vb a b n w hS hT ha hb hal hbl hn hnb)
  obtain ⟨aa, ac, rfl⟩ := ha.shape
  obtain ⟨ba, bc, rfl⟩ := hb.shape
  have HS := Lib.hid hS
  have HT := Lib.hid hT
  have HA := Lib.hid ha
  have HB := Lib.hid hb
  have HN := Lib.hid hn
  obtain ⟨PP, hPP⟩ : ∃ PP, pairsN a 0 b 0 = PP := ⟨_, rfl⟩
  rw [hPP]
  have HPP := Lib.hid hPP
  clear hS hT ha hb hn hPP
  go_enter Try.func38, Try.ntmps38
  go_wp2_with fail
  refine HC.out.mono ?_
  rintro e w2 ⟨tb, cb, f, rfl, hT2, hTo2, hB2⟩
  have T2 := Lib.hid hT2
  have TO := Lib.hid hTo2
  have B2 := Lib.hid hB2
  clear hT2 hTo2 hB2
  go_wp2_with fail
  go_loopw [6, 7, 8] (fun v i j wr => ∃ (x y : Nat) (P : List (Nat × Nat)), x ≤ a.length ∧ y ≤ b.length ∧ P.length ≤ x ∧ i = .int .i64 x ∧ j = .int .i64 y ∧ Hid (OwnP wr w2.heap.size v P) ∧ Hid (P ++ pairsN (a.drop x) x (b.drop y) y = PP) ∧ Hid (Below w2.heap.size w2 wr)) (fun _ i j _ => (a.length - (intOf i).toNat) + (b.length - (intOf j).toNat))
  case atStart => exact ⟨0, 0, [], Nat.zero_le _, Nat.zero_le _, Nat.le_refl _, rfl, rfl, Lib.hid (ownP_nil _ _), Lib.hid HPP.out, Lib.hid (Below.refl _ _)⟩
  case round =>
    obtain ⟨x, y, P, hx, hy, hPx, rfl, rfl, hO, hE, hW⟩ := hrel
    obtain ⟨oa, oc, rfl⟩ := ownP_slice hO.out
    by_cases hxa : x < a.length
    · by_cases hyb : y < b.length
      · obtain ⟨ga, o1, rfl, hSa, _, _, hca⟩ := HA.out.at (by omega)
        obtain ⟨gb, o2, rfl, hSb, _, _, hcb⟩ := HB.out.at (by omega)
        have hs2 := B2.out.size
        have BW := Lib.hid (B2.out.trans (hW.out.mono hs2))
        have c1 := (BW.out.cell (p := ⟨ga, o1 + x, none⟩) (HS.out _ hSa)).trans (hca x hxa)
        have c2 := (BW.out.cell (p := ⟨gb, o2 + y, none⟩) (HT.out _ hSb)).trans (hcb y hyb)
        have hsz := hW.out.size
        have T3 : Hid (Tab wr tb cb ((b.length : Int) + 1) n f) := Lib.hid (T2.out.kept (hW.out.block tb T2.out.lt.1) (hW.out.block cb T2.out.lt.2) hsz)
        obtain ⟨hst1, hst2, hst3⟩ := walk_at hxa hyb
        have ST1 := Lib.hid hst1
        have ST2 := Lib.hid hst2
        have ST3 := Lib.hid hst3
        have HP1 := Lib.hid (TO.out (x + 1) y (by omega) (by omega) (Or.inl (by omega)))
        have HP0 := Lib.hid (TO.out x y (by omega) (by omega) (Or.inl (by omega)))
        have L0 : Hid (x * (b.length + 1) + y < n) := Lib.hid (by have := place_lt (la := a.length) (lb := b.length) (p := x) (q := y) (by omega) (by omega); have := HN.out; omega)
        have L1 : Hid ((x + 1) * (b.length + 1) + y < n) := Lib.hid (by have := place_lt (la := a.length) (lb := b.length) (p := x + 1) (q := y) (by omega) (by omega); have := HN.out; omega)
        have E0 : Hid ((x : Int) * ((b.length : Int) + 1) + (y : Int) = ((x * (b.length + 1) + y : Nat) : Int)) := Lib.hid (by push_cast; rfl)
        have E1 : Hid (((x : Int) + 1) * ((b.length : Int) + 1) + (y : Int) = (((x + 1) * (b.length + 1) + y : Nat) : Int)) := Lib.hid (by push_cast; rfl)
        clear hca hcb hst1 hst2 hst3
        generalize x * (b.length + 1) + y = k0 at *
        generalize (x + 1) * (b.length + 1) + y = k1 at *
        generalize lcs (a.drop (x + 1)) (b.drop y) = q1 at *
        generalize lcs (a.drop x) (b.drop y) = q0 at *
        by_cases he : a.getD x 0 = b.getD y 0
        · have ge : ((a.getD x 0 : Int) == (b.getD y 0 : Int)) = true := by rw [he]; simp
          have HR : Hid (P ++ [(x, y)] ++ pairsN (a.drop (x + 1)) (x + 1) (b.drop (y + 1)) (y + 1) = PP) := Lib.hid (by rw [← hE.out, ST1.out he]; simp)
          generalize a.getD x 0 = ua at *
          generalize b.getD y 0 = ub at *
          clear he ST1 ST2 ST3 hE
          go_wp2_with fail
          go_quiet (fail)
          have O3 : Hid (OwnP (wr.drewN nq) w2.heap.size (.slice oa P.length oc) P) := Lib.hid (own_below hO.out (fun _ _ _ => rfl))
          have W3 := Lib.hid (hW.out.trans (drewn w2.heap.size wr nq))
          have hsz3 : w2.heap.size ≤ (wr.drewN nq).heap.size := hsz
          clear c1 c2 hO hW
          generalize wr.drewN nq = wq at *
          go_wp2_with (at_builtin; refine wpList_own_src _ rfl _ _ 58 58 rfl w2.heap.size 99 i0 (.agg #[.int .i64 0, .int .i64 0]) 2 16 Try.underlying58 hi hz0 hz1 hz2 rfl (by decide) _ _ _ rfl (World.ownsRow.alloc O3.out _) _ 1 [.int .i64 (x : Int), .int .i64 (y : Int)] rfl (srcP_one _ _ _) (by unfold maxLen; omega) (by omega) (by simp; omega) ?_)
          intro v5 w5 hown5 hg5
          have O5 : Hid (OwnP w5 w2.heap.size v5 (P ++ [(x, y)])) := Lib.hid (ownP_push hown5)
          have W5 : Hid (Below w2.heap.size w2 w5) := Lib.hid ((W3.out.alloc W3.out.size _).grown hg5.gb (by simp; omega) (fun j hj => (World.ownsRow.lt O3.out j hj).1))
          clear hown5 hg5
          go_wp2_with fail
          go_roundw
          case rel => exact ⟨x + 1, y + 1, P ++ [(x, y)], by omega, by omega, by simp; omega, by go_num, by go_num, O5, HR, W5⟩
          case measure => simp [intOf]; omega
        · have ge : ((a.getD x 0 : Int) == (b.getD y 0 : Int)) = false := by rw [beq_eq_false_iff_ne]; omega
          have S2 := Lib.hid (ST2.out he)
          have S3 := Lib.hid (ST3.out he)
          generalize a.getD x 0 = ua at *
          generalize b.getD y 0 = ub at *
          clear he ST1 ST2 ST3
          go_wp2_with fail
          go_quiet (fail)
          have O3 : Hid (OwnP (wr.drewN nq) w2.heap.size (.slice oa P.length oc) P) := Lib.hid (own_below hO.out (fun _ _ _ => rfl))
          have W3 := Lib.hid (hW.out.trans (drewn w2.heap.size wr nq))
          have T4 := Lib.hid (T3.out.drewN nq)
          clear c1 c2 hO hW
          generalize wr.drewN nq = wq at *
          have t0 := T4.out.c0
          have t1 := T4.out.c1
          have d1 := T4.out.cs k1 L1.out
          have d0 := T4.out.cs k0 L0.out
          rw [HP1.out] at d1
          rw [HP0.out] at d0
          have hw1 : IntKind.i64.wrap ((x : Int) + 1) = (x : Int) + 1 := IntWalk.i64_in _ (by omega)
          have C1 := Lib.hid (fun m => cell_any tb cb n _ ((x : Int) + 1) (y : Int) k1 (wq.drewN m) t0 t1 (by omega) (by omega) (by omega) E1.out L1.out hnb)
          have C0 := Lib.hid (fun m => cell_any tb cb n _ (x : Int) (y : Int) k0 (wq.drewN m) t0 t1 (by omega) (by omega) (by omega) E0.out L0.out hnb)
          by_cases hq : q1 = q0
          · have gq : ((q1 : Int) == (q0 : Int)) = true := by rw [hq]; simp
            have HR : Hid (P ++ pairsN (a.drop (x + 1)) (x + 1) (b.drop y) y = PP) := Lib.hid (by rw [← hE.out, S2.out hq])
            clear hq S2 S3 hE
            go_wp2_with fail
            go_quiet ((go_at_call 51; first | (with_reducible exact Calls.quiet_of (C1.out _)) | (with_reducible exact Calls.quiet_of (C0.out _))))
            have O4 : Hid (OwnP (wq.drewN nq) w2.heap.size (.slice oa P.length oc) P) := Lib.hid (own_below O3.out (fun _ _ _ => rfl))
            have W4 := Lib.hid (W3.out.trans (drewn w2.heap.size wq nq))
            clear d0 d1 t0 t1 C1 C0 hw1
            generalize wq.drewN nq = wz at *
            go_wp2_with fail
            go_roundw
            case rel => exact ⟨x + 1, y, P, by omega, by omega, by omega, by go_num, rfl, O4, HR, W4⟩
            case measure => simp [intOf]; omega
          · have gq : ((q1 : Int) == (q0 : Int)) = false := by rw [beq_eq_false_iff_ne]; omega
            have HR : Hid (P ++ pairsN (a.drop x) x (b.drop (y + 1)) (y + 1) = PP) := Lib.hid (by rw [← hE.out, S3.out hq])
            clear hq S2 S3 hE
            go_wp2_with fail
            go_quiet ((go_at_call 51; first | (with_reducible exact Calls.quiet_of (C1.out _)) | (with_reducible exact Calls.quiet_of (C0.out _))))
            have O4 : Hid (OwnP (wq.drewN nq) w2.heap.size (.slice oa P.length oc) P) := Lib.hid (own_below O3.out (fun _ _ _ => rfl))
            have W4 := Lib.hid (W3.out.trans (drewn w2.heap.size wq nq))
            clear d0 d1 t0 t1 C1 C0 hw1
            generalize wq.drewN nq = wz at *
            go_wp2_with fail
            go_roundw
            case rel => exact ⟨x, y + 1, P, by omega, by omega, by omega, rfl, by go_num, O4, HR, W4⟩
            case measure => simp [intOf]; omega
      · have HQ : Hid (P = PP) := Lib.hid (by
          have := hE.out
          rw [List.drop_eq_nil_of_le (show b.length ≤ y by omega), pairsN_none, List.append_nil] at this
          exact this)
        have hs2 := B2.out.size
        go_wp2_with fail
        go_ret
        exact ⟨_, rfl, own_base (by rw [← HQ.out]; exact hO.out) hs2, B2.out.trans (hW.out.mono hs2)⟩
    · have HQ : Hid (P = PP) := Lib.hid (by
        have := hE.out
        rw [List.drop_eq_nil_of_le (show a.length ≤ x by omega), pairsN_nil, List.append_nil] at this
        exact this)
      have hs2 := B2.out.size
      go_wp2_with fail
      go_ret
      exact ⟨_, rfl, own_base (by rw [← HQ.out]; exact hO.out) hs2, B2.out.trans (hW.out.mono hs2)⟩
end Go.Proofs.Ytaajfekolokaoaa
namespace Go.Proofs.Ytaajfekolokaoaa
open Go.RowKit

theorem many_le {x y : Nat} (hx : 1 ≤ x) (hy : 1 ≤ y) (h : x * y ≤ 1048576) : x ≤ 1048576 ∧ y ≤ 1048576 ∧ (x + 1) * (y + 1) ≤ 8388608 := by
  have h1 : x * 1 ≤ x * y := Nat.mul_le_mul_left x hy
  have h2 : 1 * y ≤ x * y := Nat.mul_le_mul_right y hx
  have h3 : (x + 1) * (y + 1) = x * y + x + y + 1 := by rw [Nat.add_mul, Nat.mul_add]; omega
  omega
theorem div_cast (m : Nat) : (1048576 : Int) / (m : Int) = ((1048576 / m : Nat) : Int) := (Int.natCast_ediv 1048576 m).symm
set_option maxRecDepth 100000 in
set_option maxHeartbeats 4000000 in
theorem pairs_any (S T : Nat → Prop) (va vb : Value) (a b : List (List UInt8)) (w : World) (hS : ∀ k, S k → k < w.heap.size) (hT : ∀ k, T k → k < w.heap.size) (ha : StrsC S w va a) (hb : StrsC T w vb b) (hal : a.length ≤ 4194304) (hbl : b.length ≤ 4194304) (hax : ∀ x ∈ a, x.length ≤ 4194304) (hbx : ∀ x ∈ b, x.length ≤ 4194304)
    (hm : a.length * b.length ≤ 1048576) :
    Calls Try.prog 21 #[va, vb] w fun e w' => ∃ v, e = .returned (.tuple #[v, .int .i64 0]) ∧ OwnP w' w.heap.size v (pairsN a 0 b 0) ∧ Below w.heap.size w w' := by
  have HR := Lib.hid (Below.refl w.heap.size w)
  by_cases ha0 : a.length = 0
  · obtain ⟨aa, ac, rfl⟩ := ha.shape
    obtain ⟨ba, bc, rfl⟩ := hb.shape
    have hE : Hid (pairsN a 0 b 0 = []) := Lib.hid (by rw [List.length_eq_zero_iff.1 ha0]; rfl)
    rw [ha0]
    clear ha hb hS hT hax hbx hm ha0
    go_enter Try.func21, Try.ntmps21
    go_wp2_with fail
    go_ret2
    exact ⟨_, rfl, by rw [hE.out]; exact ownP_nil _ _, HR.out⟩
  · by_cases hb0 : b.length = 0
    · obtain ⟨aa, ac, rfl⟩ := ha.shape
      obtain ⟨ba, bc, rfl⟩ := hb.shape
      have hE : Hid (pairsN a 0 b 0 = []) := Lib.hid (by rw [List.length_eq_zero_iff.1 hb0, pairsN_none])
      have g0 : ((a.length : Int) == 0) = false := by rw [beq_eq_false_iff_ne]; omega
      rw [hb0]
      clear ha hb hS hT hax hbx hm ha0 hb0
      go_enter Try.func21, Try.ntmps21
      go_wp2_with fail
      go_ret2
      exact ⟨_, rfl, by rw [hE.out]; exact ownP_nil _ _, HR.out⟩
    · have HNum := Lib.hid (numbers_any S T va vb a b w hS hT ha hb hal hbl hax hbx)
      obtain ⟨aa, ac, rfl⟩ := ha.shape
      obtain ⟨ba, bc, rfl⟩ := hb.shape
      have g0 : ((a.length : Int) == 0) = false := by rw [beq_eq_false_iff_ne]; omega
      have g1 : ((b.length : Int) == 0) = false := by rw [beq_eq_false_iff_ne]; omega
      obtain ⟨hm1, hm2, hm3⟩ := many_le (x := a.length) (y := b.length) (by omega) (by omega) hm
      have hq : ¬ 1048576 / a.length < b.length := by rw [work_iff (by omega)]; omega
      have hdiv := div_cast a.length
      have hpos : 1 ≤ a.length := by omega
      have hp := pairsN_map (fun x => (numK a b).idxOf x) a b 0 0 (num_inj a b)
      have HP : Hid (pairsN (numA a b) 0 (numB a b) 0 = pairsN a 0 b 0) := Lib.hid hp
      have hla : (numA a b).length = a.length := by unfold numA; simp
      have hlb : (numB a b).length = b.length := by unfold numB; simp
      have HW := Lib.hid (fun (w1 : World) va' vb' h1 h2 => walk_any (fun k => w.heap.size ≤ k ∧ k < w1.heap.size) (fun k => w.heap.size ≤ k ∧ k < w1.heap.size) va' vb' (numA a b) (numB a b) _ w1 (fun k hk => hk.2) (fun k hk => hk.2) h1 h2 (by omega) (by omega) rfl (by rw [hla, hlb]; exact hm3))
      generalize 1048576 / a.length = k at *
      have hkb : b.length ≤ k := by omega
      generalize numA a b = na at *
      generalize numB a b = nb at *
      clear ha hb hS hT hax hbx hm ha0 hb0 hq hp hla hlb hm3
      go_enter Try.func21, Try.ntmps21
      go_wp2_with fail
      refine HNum.out.mono ?_
      rintro e w1 ⟨v1, v2, rfl, ho1, ho2, hb1⟩
      have C1 := Lib.hid (HW.out w1 v1 v2 (ownI_c ho1) (ownI_c ho2))
      have B1 := Lib.hid hb1
      clear ho1 ho2 hb1
      go_wp2_with fail
      refine C1.out.mono ?_
      rintro e w2 ⟨v, rfl, ho, hb2⟩
      have O2 := Lib.hid ho
      have B2 := Lib.hid (B1.out.trans (hb2.mono B1.out.size))
      have hs1 := B1.out.size
      clear ho hb2
      go_wp2_with fail
      go_ret2
      exact ⟨v, rfl, own_base (by rw [← HP.out]; exact O2.out) hs1, B2.out⟩
set_option maxRecDepth 100000 in
set_option maxHeartbeats 4000000 in
theorem pairs_long (S T : Nat → Prop) (va vb : Value) (a b : List (List UInt8)) (w : World) (ha : StrsC S w va a) (hb : StrsC T w vb b) (hal : a.length ≤ 4194304) (hbl : b.length ≤ 4194304) (hm : 1048576 < a.length * b.length) :
    Calls Try.prog 21 #[va, vb] w fun e w' => e = .returned (.tuple #[.slice none 0 0, .int .i64 2]) ∧ w = w' := by
  obtain ⟨aa, ac, rfl⟩ := ha.shape
  obtain ⟨ba, bc, rfl⟩ := hb.shape
  have ha0 : a.length ≠ 0 := fun e => by rw [e] at hm; omega
  have hb0 : b.length ≠ 0 := fun e => by rw [e] at hm; omega
  have g0 : ((a.length : Int) == 0) = false := by rw [beq_eq_false_iff_ne]; omega
  have g1 : ((b.length : Int) == 0) = false := by rw [beq_eq_false_iff_ne]; omega
  have hq : 1048576 / a.length < b.length := by rw [work_iff (by omega)]; omega
  have hdiv := div_cast a.length
  have hpos : 1 ≤ a.length := by omega
  generalize 1048576 / a.length = k at *
  clear ha hb hm ha0 hb0
  go_enter Try.func21, Try.ntmps21
  go_wp2_with fail
  go_ret2
  exact ⟨rfl, rfl⟩
/-- A hunk in memory. -/
def hunkRel (S : Nat → Prop) (w : World) (h : HunkN (List UInt8)) (cs : List Value) : Prop := ∃ v1 v2, cs = [.int .i64 h.place, v1, v2] ∧ StrsC S w v1 h.old ∧ StrsC S w v2 h.new
theorem hunk_keeps : Keeps hunkRel := by
  rintro S S' w w' h cs ⟨v1, v2, rfl, h1, h2⟩ hk
  exact ⟨v1, v2, rfl, h1.kept hk, h2.kept hk⟩
abbrev HunksC := RowsC hunkRel 3
end Go.Proofs.Ytaajfekolokaoaa
namespace Go.Proofs.Ytaajfekolokaoaa
open Go.RowKit
attribute [local go_sem ↓] Go.wp_at_zero Go.wp_at_succ

/-- Places within both lists, one behind the other. -/
def StepsOk (la lb : Nat) : Nat → Nat → List (Nat × Nat) → Prop
  | _, _, [] => True
  | i, j, p :: r => i ≤ p.1 ∧ p.1 ≤ la ∧ j ≤ p.2 ∧ p.2 ≤ lb ∧ StepsOk la lb (p.1 + 1) (p.2 + 1) r
theorem steps_ok {α : Type} {a b : List α} : ∀ {P : List (Nat × Nat)} {i j : Nat}, i ≤ a.length → j ≤ b.length → PairsOk a b i j P → StepsOk a.length b.length i j (P ++ [(a.length, b.length)])
  | [], _, _, hi, hj, _ => ⟨hi, Nat.le_refl _, hj, Nat.le_refl _, trivial⟩
  | _ :: _, _, _, _, _, ⟨h1, h2, h3, h4, _, h6⟩ => ⟨h1, by omega, h2, by omega, steps_ok (by omega) (by omega) h6⟩
theorem any_step {K : Act → World → Prop} {a : Act} {w : World} (h : ∀ w1, w1 = w → K a w1) : K a w := h _ rfl
theorem OwnR_drewN {E : Type} {rel : (Nat → Prop) → World → E → List Value → Prop} {t : TypeId} {sz B : Nat} {S : Nat → Prop} {w : World} {v : Value} {css : List (List Value)} {es : List E} (hr : Keeps rel) (h : OwnR rel t sz S w B v css es) (n : Nat) : OwnR rel t sz S (w.drewN n) B v css es :=
  ⟨own_below h.own (fun _ _ _ => rfl), h.len, h.each, h.one, fun j e cs he hc => hr _ _ _ _ _ _ (h.reads j e cs he hc) (fun _ hk => ⟨hk, rfl⟩)⟩
theorem OwnR_alloc {E : Type} {rel : (Nat → Prop) → World → E → List Value → Prop} {t : TypeId} {sz B : Nat} {S : Nat → Prop} {w : World} {v : Value} {css : List (List Value)} {es : List E} (hr : Keeps rel) (h : OwnR rel t sz S w B v css es) (o : Obj) : OwnR rel t sz S (w.alloc o) B v css es :=
  ⟨own_below h.own (fun _ _ hk => Below.heap_alloc _ _ _ hk), h.len, h.each, h.one, fun j e cs he hc => hr _ _ _ _ _ _ (h.reads j e cs he hc) (fun _ hk => ⟨⟨hk.1, by simp; omega, hk.2.2⟩, Below.heap_alloc _ _ _ hk.2.1⟩)⟩
theorem ownR_slice {E : Type} {rel : (Nat → Prop) → World → E → List Value → Prop} {t : TypeId} {sz B : Nat} {S : Nat → Prop} {w : World} {v : Value} {css : List (List Value)} {es : List E} (h : OwnR rel t sz S w B v css es) : ∃ a c, v = .slice a es.length c := by
  rcases h.own.2 with ⟨e, hn⟩ | ⟨g, cap, cur, e, _⟩
  · rw [hn]; exact ⟨none, 0, e⟩
  · exact ⟨_, _, e⟩
/-- What Diff leaves. -/
def HunksP (w : World) (hs : List (HunkN (List UInt8))) (e : Ending) (w' : World) : Prop := ∃ v, e = .returned (.tuple #[v, .int .i64 0]) ∧ HunksC (fun k => w.heap.size ≤ k ∧ k < w'.heap.size) w' v hs ∧ Below w.heap.size w w'
end Go.Proofs.Ytaajfekolokaoaa
namespace Go.Proofs.Ytaajfekolokaoaa
open Go.RowKit

section
variable {α : Type} [DecidableEq α]
/-- Do hunks fit, one behind the other, from a place on? -/
def fitB (a : List α) : Nat → List (HunkN α) → Bool
  | _, [] => true
  | done, h :: r => decide ((done : Int) ≤ h.place ∧ h.place ≤ a.length ∧ (h.old.length : Int) ≤ (a.length : Int) - h.place) && (decide ((a.drop h.place.toNat).take h.old.length = h.old) && fitB a (h.place.toNat + h.old.length) r)
theorem fit_iff (a : List α) : ∀ (hs : List (HunkN α)) (d : Nat), fitB a d hs = true ↔ Fits a d hs
  | [], _ => by simp [fitB, Fits]
  | h :: r, d => by
    have ih := fit_iff a r (h.place.toNat + h.old.length)
    unfold fitB Fits
    rw [Bool.and_eq_true, Bool.and_eq_true, ih, decide_eq_true_eq, decide_eq_true_eq]
    constructor
    · rintro ⟨⟨h1, h2, h3⟩, h4, h5⟩; exact ⟨h1, h2, h3, h4, h5⟩
    · rintro ⟨h1, h2, h3, h4, h5⟩; exact ⟨⟨h1, h2, h3⟩, h4, h5⟩
end
theorem hunk_at {S : Nat → Prop} {w : World} {a : Option Addr} {c : Nat} {hs : List (HunkN (List UInt8))} (h : HunksC S w (.slice a hs.length c) hs) (hn : 0 < hs.length) :
    ∃ g o, a = some ⟨g, o, none⟩ ∧ S g ∧ hs.length ≤ c ∧ c ≤ 9223372036854775807 ∧ ∀ k x, hs[k]? = some x → ∃ a1 c1 a2 c2, w.cell? ⟨g, o + k * 3, none⟩ = some (.int .i64 x.place) ∧ w.cell? ⟨g, o + k * 3 + 1, none⟩ = some (.slice a1 x.old.length c1) ∧ w.cell? ⟨g, o + k * 3 + 2, none⟩ = some (.slice a2 x.new.length c2) ∧
      StrsC S w (.slice a1 x.old.length c1) x.old ∧ StrsC S w (.slice a2 x.new.length c2) x.new := by
  obtain ⟨g, o, h1, h2, h3, h4, h5⟩ := RowsC.at h hn
  refine ⟨g, o, h1, h2, h3, h4, fun k x hx => ?_⟩
  obtain ⟨cs, _, ⟨v1, v2, rfl, r1, r2⟩, hc⟩ := h5 k x hx
  obtain ⟨a1, c1, rfl⟩ := r1.shape
  obtain ⟨a2, c2, rfl⟩ := r2.shape
  exact ⟨a1, c1, a2, c2, hc 0 _ rfl, hc 1 _ rfl, hc 2 _ rfl, r1, r2⟩
end Go.Proofs.Ytaajfekolokaoaa
namespace Go.Proofs.Ytaajfekolokaoaa
open Go.RowKit

/-- How many new lines hunks have. -/
def newsN : List (HunkN (List UInt8)) → Nat
  | [] => 0
  | h :: r => h.new.length + newsN r
theorem box3 {w w' : World} {b : Nat} {x y z : Value} {t : TypeId} (h : w.heap[b]? = some (.cells #[x, y, z] t (0, 0))) (hk : w'.heap[b]? = w.heap[b]?) : w'.cell? ⟨b, 0, none⟩ = some x ∧ w'.cell? ⟨b, 1, none⟩ = some y ∧ w'.cell? ⟨b, 2, none⟩ = some z := by
  have h2 := hk.trans h
  exact ⟨by rw [cell_of_row _ _ _ _ _ _ h2]; rfl, by rw [cell_of_row _ _ _ _ _ _ h2]; rfl, by rw [cell_of_row _ _ _ _ _ _ h2]; rfl⟩
end Go.Proofs.Ytaajfekolokaoaa
namespace Go.Proofs.Ytaajfekolokaoaa
open Go.RowKit
attribute [local go_sem ↓] Go.wp_at_zero Go.wp_at_succ

/-- How many old lines hunks have. -/
def oldsN : List (HunkN (List UInt8)) → Nat
  | [] => 0
  | h :: r => h.old.length + oldsN r
theorem hunks_sizes (a b : List (List UInt8)) : ∀ (Q : List (Nat × Nat)) (i j : Nat), StepsOk a.length b.length i j Q → oldsN (hunksN a b i j Q) ≤ a.length - i ∧ newsN (hunksN a b i j Q) ≤ b.length - j ∧ (hunksN a b i j Q).length ≤ Q.length ∧ ∀ h ∈ hunksN a b i j Q, 0 ≤ h.place ∧ h.place ≤ a.length ∧ h.old.length ≤ a.length ∧ h.new.length ≤ b.length
  | [], i, j, _ => ⟨Nat.zero_le _, Nat.zero_le _, Nat.le_refl _, fun h hh => (by cases hh)⟩
  | p :: Q, i, j, ⟨h1, h2, h3, h4, h5⟩ => by
    obtain ⟨k1, k2, k3, k4⟩ := hunks_sizes a b Q (p.1 + 1) (p.2 + 1) h5
    by_cases h : i < p.1 ∨ j < p.2
    · rw [hunksN_yes _ h]
      have e1 : ((a.drop i).take (p.1 - i)).length = p.1 - i := by simp; omega
      have e2 : ((b.drop j).take (p.2 - j)).length = p.2 - j := by simp; omega
      refine ⟨?_, ?_, by simpa using k3, fun x hx => ?_⟩
      · show ((a.drop i).take (p.1 - i)).length + oldsN _ ≤ _
        rw [e1]; omega
      · show ((b.drop j).take (p.2 - j)).length + newsN _ ≤ _
        rw [e2]; omega
      · rcases List.mem_cons.1 hx with rfl | hx
        · refine ⟨by show (0 : Int) ≤ (i : Int); omega, by show (i : Int) ≤ _; omega, ?_, ?_⟩
          · show ((a.drop i).take (p.1 - i)).length ≤ _
            rw [e1]; omega
          · show ((b.drop j).take (p.2 - j)).length ≤ _
            rw [e2]; omega
        · exact k4 x hx
    · rw [hunksN_no _ h]
      exact ⟨by omega, by omega, Nat.le_succ_of_le k3, k4⟩
end Go.Proofs.Ytaajfekolokaoaa
namespace Go.Proofs.Ytaajfekolokaoaa
open Go.RowKit

theorem bytes_lit (w : World) (l : List UInt8) (fr : Nat × Nat) (hl : l.length ≤ maxLen) : BytesC (fun k => w.heap.size ≤ k ∧ k < w.heap.size + 1) (w.alloc (.cells (bv l).toArray 5 fr)) (.slice (some ⟨w.heap.size, 0, none⟩) l.length l.length) l := by
  refine Or.inr ⟨⟨w.heap.size, 0, none⟩, l.length, rfl, Nat.le_refl _, hl, Or.inr ⟨Nat.le_refl _, Nat.lt_succ_self _⟩, fun j u hj => ?_⟩
  rw [add_pos, Nat.zero_add, World.cell?_alloc_mark]
  simpa using hj
def abc1 : List UInt8 := [97, 10, 98, 10, 99]
def abc2 : List UInt8 := [97, 10, 120, 10, 99]
theorem abc1_lines : linesL abc1 = [[97, 10], [98, 10], [99]] := by decide
theorem abc2_lines : linesL abc2 = [[97, 10], [120, 10], [99]] := by decide
theorem abc_diff : diffN [[97, 10], [98, 10], [99]] [[97, 10], [120, 10], [99]] = [(⟨1, [[98, 10]], [[120, 10]]⟩ : HunkN (List UInt8))] := rfl
end Go.Proofs.Ytaajfekolokaoaa
namespace Go.Proofs.Ytaajfekolokaoaa
open Go.RowKit
attribute [local go_sem ↓] Go.wp_at_zero Go.wp_at_succ

theorem below_dr (w : World) : Below w.heap.size w w.drew := (Below.refl _ w).drew
/-- What each law leaves: true, and nothing that was there has turned. -/
def TrueP (w : World) (e : Ending) (w' : World) : Prop := e = .returned (.bool true) ∧ Below w.heap.size w w'
end Go.Proofs.Ytaajfekolokaoaa
