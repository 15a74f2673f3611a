/- The order of paths, name by name. -/
import Derived.Test.YthigepjddfdbmaaDoorPathB
import GoSem.Op.String
namespace Go.Proofs.YthigepjddfdbmaaDoor
open Go.Lib

/-- The order of lists of names, name by name. -/
def cmpQ : List (List UInt8) → List (List UInt8) → Int
  | [], [] => 0
  | [], _ :: _ => -1
  | _ :: _, [] => 1
  | a :: u, b :: v => if Op.bytesLess a b = true then -1 else if Op.bytesLess b a = true then 1 else cmpQ u v
theorem less_self (a : List UInt8) : Op.bytesLess a a = false := by
  induction a with
  | nil => rfl
  | cons x xs ih => simp [Op.bytesLess, ih, UInt8.lt_irrefl]
theorem less_cons_same (x : UInt8) (a b : List UInt8) : Op.bytesLess (x :: a) (x :: b) = Op.bytesLess a b := by
  simp [Op.bytesLess, UInt8.lt_irrefl]
theorem less_cons_ne {x y : UInt8} (h : x ≠ y) (a b : List UInt8) : Op.bytesLess (x :: a) (y :: b) = decide (x < y) := by
  simp [Op.bytesLess, h]
theorem less_nil (a : List UInt8) : Op.bytesLess a [] = false := by cases a <;> rfl
theorem cmpQ_cons_nil (a b : List (List UInt8)) : cmpQ ([] :: a) ([] :: b) = cmpQ a b := by
  rw [cmpQ, less_nil]; rfl
theorem cmpQ_same (x : UInt8) (h g : List UInt8) (a b : List (List UInt8)) : cmpQ ((x :: h) :: a) ((x :: g) :: b) = cmpQ (h :: a) (g :: b) := by
  rw [cmpQ, cmpQ, less_cons_same, less_cons_same]
theorem rank_lt {x y : UInt8} (h1 : x ≠ 47) (h2 : y ≠ 47) : rankI x < rankI y ↔ x < y := by
  unfold rankI
  rw [if_neg h1, if_neg h2, UInt8.lt_iff_toNat_lt]
  omega
theorem cmpQ_split (a b : List UInt8) : cmpQ (splitL a) (splitL b) = cmpP a b := by
  induction a generalizing b with
  | nil =>
    cases b with
    | nil => simp [splitL, cmpQ, cmpP, Op.bytesLess]
    | cons y ys =>
      obtain ⟨h, r, e⟩ := splitL_shape ys
      rw [cmpP]
      by_cases hy : y = 47
      · rw [hy, splitL_stroke, e]
        show cmpQ [[]] ([] :: h :: r) = -1
        rw [cmpQ_cons_nil]; rfl
      · rw [splitL_cons hy]
        show cmpQ [[]] _ = -1
        rw [cmpQ]; rfl
  | cons x xs ih =>
    cases b with
    | nil =>
      obtain ⟨h, r, e⟩ := splitL_shape xs
      rw [cmpP]
      by_cases hx : x = 47
      · rw [hx, splitL_stroke, e]
        show cmpQ ([] :: h :: r) [[]] = 1
        rw [cmpQ_cons_nil]; rfl
      · rw [splitL_cons hx]
        show cmpQ _ [[]] = 1
        rw [cmpQ, less_nil]; rfl
    | cons y ys =>
      obtain ⟨h, r, e⟩ := splitL_shape xs
      obtain ⟨g, q, f⟩ := splitL_shape ys
      rw [cmpP]
      by_cases hxy : x = y
      · subst hxy
        rw [if_pos rfl, ← ih ys]
        by_cases hx : x = 47
        · rw [hx, splitL_stroke, splitL_stroke, cmpQ_cons_nil]
        · rw [splitL_cons hx, splitL_cons hx, e, f]
          exact cmpQ_same x h g r q
      · rw [if_neg hxy]
        by_cases hx : x = 47
        · have hy : y ≠ 47 := fun k => hxy (by rw [hx, k])
          rw [hx, splitL_stroke, splitL_cons hy, rankI_47, if_pos (by have := rankI_ge hy; omega), cmpQ]
          rfl
        · by_cases hy : y = 47
          · rw [hy, splitL_stroke, splitL_cons hx, rankI_47, if_neg (by have := rankI_ge hx; omega), cmpQ, less_nil]
            rfl
          · rw [splitL_cons hx, splitL_cons hy, cmpQ, less_cons_ne hxy, less_cons_ne (fun k => hxy k.symm)]
            by_cases hl : x < y
            · rw [if_pos (by simpa using hl), if_pos ((rank_lt hx hy).2 hl)]
            · have hl2 : y < x := by
                rw [UInt8.lt_iff_toNat_lt] at hl ⊢
                have : x.toNat ≠ y.toNat := fun k => hxy (UInt8.toNat_inj.1 k)
                omega
              rw [if_neg (by simpa using hl), if_pos (by simpa using hl2), if_neg (fun k => hl ((rank_lt hx hy).1 k))]
theorem cmpQ_names (a b : List UInt8) : cmpQ (namesL a) (namesL b) = cmpP a b := by
  unfold namesL
  by_cases ha : a = []
  · by_cases hb : b = []
    · rw [if_pos ha, if_pos hb, ha, hb]; rfl
    · obtain ⟨h, r, e⟩ := splitL_shape b
      rw [if_pos ha, if_neg hb, ha, e]
      cases b with
      | nil => exact absurd rfl hb
      | cons y ys => rfl
  · by_cases hb : b = []
    · obtain ⟨h, r, e⟩ := splitL_shape a
      rw [if_neg ha, if_pos hb, hb, e]
      cases a with
      | nil => exact absurd rfl ha
      | cons y ys => rfl
    · rw [if_neg ha, if_neg hb, cmpQ_split]
end Go.Proofs.YthigepjddfdbmaaDoor
