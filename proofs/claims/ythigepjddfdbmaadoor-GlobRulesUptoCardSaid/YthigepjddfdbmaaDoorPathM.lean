/- The walk of the reference's Compare. -/
import Derived.Test.YthigepjddfdbmaaDoorPathL
namespace Go.Proofs.YthigepjddfdbmaaDoor
open Go.RowKit Go.Lib

theorem less_tri (x y : List UInt8) : Op.bytesLess y x = (!(Op.bytesLess x y || x == y)) := by
  induction x generalizing y with
  | nil => cases y <;> simp [Op.bytesLess]
  | cons a u ih =>
    cases y with
    | nil => simp [Op.bytesLess]
    | cons b v =>
      by_cases e : a = b
      · subst e
        rw [less_cons_same, less_cons_same, ih v]
        congr 2
        rw [Bool.eq_iff_iff]; simp
      · have e' : b ≠ a := fun k => e k.symm
        rw [less_cons_ne e, less_cons_ne e']
        have hne : ((a :: u) == (b :: v)) = false := by rw [beq_eq_false_iff_ne]; intro k; exact e (List.cons.inj k).1
        rw [hne, Bool.or_false]
        rw [Bool.eq_iff_iff]
        simp only [decide_eq_true_eq, Bool.not_eq_true', decide_eq_false_iff_not, UInt8.lt_iff_toNat_lt]
        have : a.toNat ≠ b.toNat := fun k => e (UInt8.toNat_inj.1 k)
        omega
theorem cmpQ_step {X Y : List (List UInt8)} {k : Nat} (h1 : k < X.length) (h2 : k < Y.length) : cmpQ (X.drop k) (Y.drop k) = if Op.bytesLess (X.getD k []) (Y.getD k []) = true then -1 else if Op.bytesLess (Y.getD k []) (X.getD k []) = true then 1 else cmpQ (X.drop (k + 1)) (Y.drop (k + 1)) := by
  rw [List.drop_eq_getElem_cons h1, List.drop_eq_getElem_cons h2, cmpQ]
  rw [show X.getD k [] = X[k] by simp [List.getD, List.getElem?_eq_getElem h1], show Y.getD k [] = Y[k] by simp [List.getD, List.getElem?_eq_getElem h2]]
theorem cmpQ_end {X Y : List (List UInt8)} {k : Nat} (h1 : k ≤ X.length) (h2 : k ≤ Y.length) (h : k = X.length ∨ k = Y.length) : cmpQ (X.drop k) (Y.drop k) = if X.length < Y.length then -1 else if Y.length < X.length then 1 else 0 := by
  by_cases e1 : k = X.length
  · by_cases e2 : k = Y.length
    · rw [List.drop_of_length_le (by omega), List.drop_of_length_le (by omega), if_neg (by omega), if_neg (by omega)]; rfl
    · rw [List.drop_of_length_le (by omega), List.drop_eq_getElem_cons (show k < Y.length by omega), if_pos (by omega)]; rfl
  · have e2 : k = Y.length := by omega
    rw [List.drop_eq_getElem_cons (show k < X.length by omega), List.drop_of_length_le (l := Y) (by omega), if_neg (by omega), if_pos (by omega)]; rfl
end Go.Proofs.YthigepjddfdbmaaDoor
