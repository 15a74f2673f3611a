/- Hunks: what must be done to one list to make it another one; done, and undone. -/
import Derived.Test.YtfiogjdjcocbnaaLinA
namespace Go.Proofs.Ytfiogjdjcocbnaa

/-- Lines of a list that are others in another list. -/
structure HunkN (α : Type) where
  place : Int
  old : List α
  new : List α
section
variable {α : Type}
def hunksN (a b : List α) : Nat → Nat → List (Nat × Nat) → List (HunkN α)
  | _, _, [] => []
  | i, j, p :: r => if i < p.1 ∨ j < p.2 then ⟨i, (a.drop i).take (p.1 - i), (b.drop j).take (p.2 - j)⟩ :: hunksN a b (p.1 + 1) (p.2 + 1) r else hunksN a b (p.1 + 1) (p.2 + 1) r
theorem hunksN_yes {a b : List α} {i j : Nat} {p : Nat × Nat} (r : List (Nat × Nat)) (h : i < p.1 ∨ j < p.2) : hunksN a b i j (p :: r) = ⟨i, (a.drop i).take (p.1 - i), (b.drop j).take (p.2 - j)⟩ :: hunksN a b (p.1 + 1) (p.2 + 1) r := by
  rw [hunksN, if_pos h]
theorem hunksN_no {a b : List α} {i j : Nat} {p : Nat × Nat} (r : List (Nat × Nat)) (h : ¬ (i < p.1 ∨ j < p.2)) : hunksN a b i j (p :: r) = hunksN a b (p.1 + 1) (p.2 + 1) r := by
  rw [hunksN, if_neg h]
/-- What is made of a list by hunks that fit, from a place on. -/
def outN (a : List α) : Nat → List (HunkN α) → List α
  | done, [] => a.drop done
  | done, h :: r => (a.drop done).take (h.place.toNat - done) ++ (h.new ++ outN a (h.place.toNat + h.old.length) r)
/-- Do hunks fit, one behind the other, from a place on? -/
def Fits (a : List α) : Nat → List (HunkN α) → Prop
  | _, [] => True
  | done, h :: r => (done : Int) ≤ h.place ∧ h.place ≤ a.length ∧ h.old.length ≤ (a.length : Int) - h.place ∧ (a.drop h.place.toNat).take h.old.length = h.old ∧ Fits a (h.place.toNat + h.old.length) r
def backN : Int → List (HunkN α) → List (HunkN α)
  | _, [] => []
  | more, h :: r => ⟨h.place + more, h.new, h.old⟩ :: backN (more + (h.new.length - h.old.length)) r
theorem drop_one {a : List α} {n : Nat} {x : α} (h : a[n]? = some x) : a.drop n = x :: a.drop (n + 1) := by
  obtain ⟨hn, hx⟩ := List.getElem?_eq_some_iff.1 h
  rw [List.drop_eq_getElem_cons hn, hx]
theorem take_mid (a : List α) {m i n : Nat} (h1 : m ≤ i) (h2 : i ≤ n) : (a.drop m).take (n - m) = (a.drop m).take (i - m) ++ (a.drop i).take (n - i) := by
  have e : n - m = (i - m) + (n - i) := by omega
  rw [e, List.take_add, List.drop_drop, show m + (i - m) = i from by omega]
theorem there (a b : List α) : ∀ (P : List (Nat × Nat)) (i j done : Nat), done ≤ i → i ≤ a.length → j ≤ b.length → PairsOk a b i j P →
    Fits a done (hunksN a b i j (P ++ [(a.length, b.length)])) ∧ outN a done (hunksN a b i j (P ++ [(a.length, b.length)])) = (a.drop done).take (i - done) ++ b.drop j := by
  intro P
  induction P with
  | nil =>
    intro i j done h1 h2 h3 _
    rw [List.nil_append]
    by_cases h : i < a.length ∨ j < b.length
    · rw [hunksN_yes _ h]
      have e : ((a.drop i).take (a.length - i)).length = a.length - i := by simp
      refine ⟨⟨by simp; omega, by simp; omega, by simp; omega, ?_, trivial⟩, ?_⟩
      · show (a.drop (Int.toNat (i : Int))).take ((a.drop i).take (a.length - i)).length = _
        rw [e]; rfl
      · show (a.drop done).take (Int.toNat (i : Int) - done) ++ ((b.drop j).take (b.length - j) ++ a.drop (Int.toNat (i : Int) + ((a.drop i).take (a.length - i)).length)) = _
        rw [e, Int.toNat_natCast, show i + (a.length - i) = a.length from by omega, List.drop_length, List.append_nil, List.take_of_length_le (show (b.drop j).length ≤ b.length - j by simp)]
    · rw [hunksN_no _ h]
      refine ⟨trivial, ?_⟩
      show a.drop done = _
      rw [List.drop_eq_nil_of_le (show b.length ≤ j by omega), List.append_nil, List.take_of_length_le (by simp; omega)]
  | cons p P ih =>
    intro i j done h1 h2 h3 ⟨k1, k2, k3, k4, k5, k6⟩
    obtain ⟨x, hx⟩ : ∃ x, a[p.1]? = some x := ⟨_, List.getElem?_eq_getElem k3⟩
    have hy : b[p.2]? = some x := k5.symm.trans hx
    have da := drop_one hx
    have db := drop_one hy
    rw [List.cons_append]
    by_cases h : i < p.1 ∨ j < p.2
    · rw [hunksN_yes _ h]
      have e : ((a.drop i).take (p.1 - i)).length = p.1 - i := by simp; omega
      have e2 : Int.toNat (i : Int) + ((a.drop i).take (p.1 - i)).length = p.1 := by rw [e, Int.toNat_natCast]; omega
      obtain ⟨f1, f2⟩ := ih (p.1 + 1) (p.2 + 1) p.1 (by omega) (by omega) (by omega) k6
      refine ⟨⟨by simp; omega, by simp; omega, by simp; omega, ?_, ?_⟩, ?_⟩
      · show (a.drop (Int.toNat (i : Int))).take ((a.drop i).take (p.1 - i)).length = _
        rw [e]; rfl
      · show Fits a (Int.toNat (i : Int) + ((a.drop i).take (p.1 - i)).length) _
        rw [e2]; exact f1
      · show (a.drop done).take (Int.toNat (i : Int) - done) ++ ((b.drop j).take (p.2 - j) ++ outN a (Int.toNat (i : Int) + ((a.drop i).take (p.1 - i)).length) _) = _
        rw [e2, f2, Int.toNat_natCast, show p.1 + 1 - p.1 = 1 from by omega, da]
        congr 1
        have hb2 : b.drop j = (b.drop j).take (p.2 - j) ++ x :: b.drop (p.2 + 1) := by
          rw [← db]
          conv => lhs; rw [← List.take_append_drop (p.2 - j) (b.drop j), List.drop_drop, show j + (p.2 - j) = p.2 from by omega]
        conv => rhs; rw [hb2]
        simp
    · rw [hunksN_no _ h]
      obtain rfl : i = p.1 := by omega
      obtain rfl : j = p.2 := by omega
      obtain ⟨f1, f2⟩ := ih (p.1 + 1) (p.2 + 1) done (by omega) (by omega) (by omega) k6
      refine ⟨f1, ?_⟩
      rw [f2, take_mid a h1 (Nat.le_succ p.1), da, db]
      simp
theorem back_hunks (a b : List α) : ∀ (P : List (Nat × Nat)) (i j : Nat) (more : Int), i ≤ a.length → j ≤ b.length → more = (j : Int) - i → PairsOk a b i j P →
    backN more (hunksN a b i j (P ++ [(a.length, b.length)])) = hunksN b a j i (P.map Prod.swap ++ [(b.length, a.length)]) := by
  intro P
  induction P with
  | nil =>
    intro i j more h2 h3 hm _
    rw [List.nil_append, List.map_nil, List.nil_append]
    by_cases h : i < a.length ∨ j < b.length
    · rw [hunksN_yes _ h, hunksN_yes _ (show j < b.length ∨ i < a.length from h.symm)]
      show [HunkN.mk _ _ _] = [HunkN.mk _ _ _]
      rw [show (i : Int) + more = j from by omega]
    · rw [hunksN_no _ h, hunksN_no _ (show ¬ (j < b.length ∨ i < a.length) from fun k => h k.symm)]
      rfl
  | cons p P ih =>
    intro i j more h2 h3 hm ⟨k1, k2, k3, k4, k5, k6⟩
    rw [List.cons_append, List.map_cons, List.cons_append]
    by_cases h : i < p.1 ∨ j < p.2
    · rw [hunksN_yes _ h, hunksN_yes _ (show j < p.swap.1 ∨ i < p.swap.2 from h.symm)]
      have e1 : ((a.drop i).take (p.1 - i)).length = p.1 - i := by simp; omega
      have e2 : ((b.drop j).take (p.2 - j)).length = p.2 - j := by simp; omega
      show HunkN.mk _ _ _ :: _ = HunkN.mk _ _ _ :: _
      rw [show (i : Int) + more = j from by omega, ih (p.1 + 1) (p.2 + 1) _ (by omega) (by omega) (by
        show more + ((((b.drop j).take (p.2 - j)).length : Int) - ((a.drop i).take (p.1 - i)).length) = _
        rw [e1, e2]; omega) k6]
      rfl
    · rw [hunksN_no _ h, hunksN_no _ (show ¬ (j < p.swap.1 ∨ i < p.swap.2) from fun k => h k.symm), ih (p.1 + 1) (p.2 + 1) more (by omega) (by omega) (by omega) k6]
      rfl
theorem PairsOk.swap {a b : List α} : ∀ {P : List (Nat × Nat)} {i j : Nat}, PairsOk a b i j P → PairsOk b a j i (P.map Prod.swap)
  | [], _, _, _ => trivial
  | _ :: _, _, _, ⟨h1, h2, h3, h4, h5, h6⟩ => ⟨h2, h1, h4, h3, h5.symm, h6.swap⟩
theorem hunksN_diag (a b : List α) (R : List (Nat × Nat)) : ∀ n i j : Nat, hunksN a b i j (diag n i j ++ R) = hunksN a b (i + n) (j + n) R := by
  intro n
  induction n with
  | zero => intro i j; rfl
  | succ n ih =>
    intro i j
    show hunksN a b i j ((i, j) :: (diag n (i + 1) (j + 1) ++ R)) = _
    rw [hunksN_no _ (by simp), ih, Nat.add_right_comm, Nat.add_right_comm j]
    rfl
theorem hunksN_shift (h a b : List α) : ∀ (P : List (Nat × Nat)) (i j : Nat), hunksN (h ++ a) (h ++ b) (i + h.length) (j + h.length) (P.map fun p => (p.1 + h.length, p.2 + h.length)) =
    (hunksN a b i j P).map fun k => ⟨k.place + h.length, k.old, k.new⟩ := by
  intro P
  induction P with
  | nil => intro i j; rfl
  | cons p P ih =>
    intro i j
    rw [List.map_cons]
    have e1 : (h ++ a).drop (i + h.length) = a.drop i := by rw [Nat.add_comm, ← List.drop_drop]; simp
    have e2 : (h ++ b).drop (j + h.length) = b.drop j := by rw [Nat.add_comm, ← List.drop_drop]; simp
    have e3 := ih (p.1 + 1) (p.2 + 1)
    rw [Nat.add_right_comm, Nat.add_right_comm p.2] at e3
    by_cases k : i < p.1 ∨ j < p.2
    · rw [hunksN_yes _ (by simp; omega), hunksN_yes _ k, List.map_cons, e1, e2, e3, show p.1 + h.length - (i + h.length) = p.1 - i from by omega, show p.2 + h.length - (j + h.length) = p.2 - j from by omega]
      congr 1
    · rw [hunksN_no _ (by simp; omega), hunksN_no _ k, e3]
variable [DecidableEq α]
def diffN (a b : List α) : List (HunkN α) := hunksN a b 0 0 (pairsN a 0 b 0 ++ [(a.length, b.length)])
theorem diff_there (a b : List α) : Fits a 0 (diffN a b) ∧ outN a 0 (diffN a b) = b := by
  obtain ⟨h1, h2⟩ := there a b (pairsN a 0 b 0) 0 0 0 (Nat.le_refl _) (Nat.zero_le _) (Nat.zero_le _) (pairs_ok a b)
  exact ⟨h1, by unfold diffN; rw [h2]; simp⟩
theorem diff_back (a b : List α) : Fits b 0 (backN 0 (diffN a b)) ∧ outN b 0 (backN 0 (diffN a b)) = a := by
  unfold diffN
  rw [back_hunks a b _ 0 0 0 (Nat.zero_le _) (Nat.zero_le _) (by simp) (pairs_ok a b)]
  obtain ⟨h1, h2⟩ := there b a ((pairsN a 0 b 0).map Prod.swap) 0 0 0 (Nat.le_refl _) (Nat.zero_le _) (Nat.zero_le _) (pairs_ok a b).swap
  exact ⟨h1, by rw [h2]; simp⟩
theorem diff_head (h a b : List α) : diffN (h ++ a) (h ++ b) = (diffN a b).map fun k => ⟨k.place + h.length, k.old, k.new⟩ := by
  unfold diffN
  rw [pairsN_head, List.append_assoc, hunksN_diag, pairsN_shift, ← hunksN_shift]
  congr 1
  simp [Nat.add_comm]
theorem diff_self (a : List α) : diffN a a = [] := by
  have := diff_head a [] []
  rw [List.append_nil] at this
  rw [this]; rfl
theorem diff_nil {a b : List α} : diffN a b = [] ↔ a = b := by
  constructor
  · intro h
    have := (diff_there a b).2
    rw [h] at this
    simpa [outN] using this
  · rintro rfl; exact diff_self a
theorem work_iff {m n : Nat} (hm : 0 < m) : 1048576 / m < n ↔ 1048576 < m * n := by
  rw [Nat.div_lt_iff_lt_mul hm, Nat.mul_comm]
end
end Go.Proofs.Ytfiogjdjcocbnaa
