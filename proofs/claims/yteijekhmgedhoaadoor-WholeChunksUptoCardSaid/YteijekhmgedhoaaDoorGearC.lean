/- Chunks' lengths, plainly, and the walk of the reference's Cut. -/
import Derived.Test.YteijekhmgedhoaaDoorGearB
namespace Go.Proofs.YteijekhmgedhoaaDoor
open Go.RowKit

def endAt (least most bits : Nat) (l : List UInt8) (n : Nat) : Bool := decide (n = most) || (decide (least ≤ n) && endsN (l.take n) bits)
def nextFrom (P : Nat → Bool) : Nat → Nat → Nat
  | n, 0 => n
  | n, f + 1 => if P n = true then n else nextFrom P (n + 1) f
theorem nextFrom_bd (P : Nat → Bool) : ∀ (f n : Nat), n ≤ nextFrom P n f ∧ nextFrom P n f ≤ n + f
  | 0, n => by simp only [nextFrom]; omega
  | f + 1, n => by
    simp only [nextFrom]
    have := nextFrom_bd P f (n + 1)
    split <;> omega
def nextLen (least most bits : Nat) (l : List UInt8) : Nat := nextFrom (endAt least most bits l) 1 (l.length - 1)
theorem nextLen_pos (least most bits : Nat) (l : List UInt8) : 1 ≤ nextLen least most bits l := (nextFrom_bd _ _ _).1
theorem nextLen_le (least most bits : Nat) (l : List UInt8) (h : l ≠ []) : nextLen least most bits l ≤ l.length := by
  have h1 := (nextFrom_bd (endAt least most bits l) (l.length - 1) 1).2
  have h2 : 0 < l.length := List.length_pos_iff.2 h
  unfold nextLen; omega
/-- The lengths of the chunks. -/
def cutL (least most bits : Nat) (l : List UInt8) : List Nat := if _h : l = [] then [] else nextLen least most bits l :: cutL least most bits (l.drop (nextLen least most bits l))
termination_by l.length
decreasing_by
  have h1 := nextLen_pos least most bits l
  have h2 : 0 < l.length := List.length_pos_iff.2 _h
  rw [List.length_drop]; omega
/-- What is still to come, where a chunk's first k - 1 bytes end none. -/
def cutRest (least most bits : Nat) (r : List UInt8) (k : Nat) : List Nat :=
  if r = [] then [] else nextFrom (endAt least most bits r) k (r.length - k) :: cutL least most bits (r.drop (nextFrom (endAt least most bits r) k (r.length - k)))
theorem cutRest_one (least most bits : Nat) (r : List UInt8) : cutRest least most bits r 1 = cutL least most bits r := by
  rw [cutL]
  unfold cutRest nextLen
  by_cases h : r = []
  · rw [if_pos h, dif_pos h]
  · rw [if_neg h, dif_neg h]
theorem cutRest_end {least most bits : Nat} {r : List UInt8} {k : Nat} (hr : r ≠ []) (h : endAt least most bits r k = true ∨ k = r.length) : cutRest least most bits r k = k :: cutL least most bits (r.drop k) := by
  have e : nextFrom (endAt least most bits r) k (r.length - k) = k := by
    cases hd : r.length - k with
    | zero => rfl
    | succ f =>
      simp only [nextFrom]
      rcases h with h | h
      · rw [if_pos h]
      · omega
  unfold cutRest
  rw [if_neg hr, e]
theorem cutRest_on {least most bits : Nat} {r : List UInt8} {k : Nat} (hk : k < r.length) (h : endAt least most bits r k = false) : cutRest least most bits r k = cutRest least most bits r (k + 1) := by
  have e : nextFrom (endAt least most bits r) k (r.length - k) = nextFrom (endAt least most bits r) (k + 1) (r.length - (k + 1)) := by
    obtain ⟨f, hf⟩ : ∃ f, r.length - k = f + 1 := ⟨r.length - k - 1, by omega⟩
    rw [hf, show r.length - (k + 1) = f by omega]
    simp only [nextFrom]
    rw [if_neg (by rw [h]; decide)]
  unfold cutRest
  rw [e]
end Go.Proofs.YteijekhmgedhoaaDoor
