/- Numbers of 32 bits turned and moved: the walks of the reference's turn and drop; ids as bytes; the walk of the reference's Hex. -/
import Derived.Test.YtdolonkeanlaoaaBase
import Derived.Deep.QuietTactic
import Derived.BigQuiet
namespace Go.Proofs.Ytdolonkeanlaoaa
open Go.RowKit

def two32 : Nat := 4294967296
def rotN (x n : Nat) : Nat := x / 2 ^ n + x % 2 ^ n * (two32 / 2 ^ n)
theorem pow31 {n : Nat} (h : n ≤ 31) : 1 ≤ 2 ^ n ∧ 2 ^ n ≤ 2147483648 := by
  refine ⟨Nat.two_pow_pos _, ?_⟩
  have := Nat.pow_le_pow_right (n := 2) (by omega) h
  simpa using this
theorem rotN_lt {x n : Nat} (hx : x < two32) (hn : n ≤ 31) : rotN x n < two32 := by
  have h : n = 0 ∨ n = 1 ∨ n = 2 ∨ n = 3 ∨ n = 4 ∨ n = 5 ∨ n = 6 ∨ n = 7 ∨ n = 8 ∨ n = 9 ∨ n = 10 ∨ n = 11 ∨ n = 12 ∨ n = 13 ∨ n = 14 ∨ n = 15 ∨ n = 16 ∨ n = 17 ∨ n = 18 ∨ n = 19 ∨ n = 20 ∨ n = 21 ∨ n = 22 ∨ n = 23 ∨ n = 24 ∨ n = 25 ∨ n = 26 ∨ n = 27 ∨ n = 28 ∨ n = 29 ∨ n = 30 ∨ n = 31 := by omega
  unfold rotN two32 at *
  rcases h with rfl | rfl | rfl | rfl | rfl | rfl | rfl | rfl | rfl | rfl | rfl | rfl | rfl | rfl | rfl | rfl | rfl | rfl | rfl | rfl | rfl | rfl | rfl | rfl | rfl | rfl | rfl | rfl | rfl | rfl | rfl | rfl <;>
    (simp only [Nat.reducePow, Nat.reduceDiv]; omega)
theorem halve32 (z k : Nat) : z / 2 ^ k / 2 = z / 2 ^ (k + 1) := by rw [Nat.div_div_eq_div_mul, Nat.pow_succ]
end Go.Proofs.Ytdolonkeanlaoaa
