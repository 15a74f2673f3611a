/- A byte's own number, and the walks of the reference's down, Gear, Wrong. -/
import Derived.Test.YteijekhmgedhoaaDoorBaseI
import Derived.Laws.Bits64
namespace Go.Proofs.YteijekhmgedhoaaDoor
open Go.RowKit

def two64 : Nat := 18446744073709551616
def gmul1 (x : Nat) : Nat := (x + 1) * 11400714819323198485 % two64
def gmul2 (z : Nat) : Nat := z * 13787848793156543929 % two64
def gmul3 (z : Nat) : Nat := z * 10723151780598845931 % two64
def gstep1 (x : Nat) : Nat := gmul1 x
def gstep2 (z : Nat) : Nat := gmul2 (z ^^^ z / 2 ^ 30)
def gstep3 (z : Nat) : Nat := gmul3 (z ^^^ z / 2 ^ 27)
def gstep4 (z : Nat) : Nat := z ^^^ z / 2 ^ 31
def gearN (x : Nat) : Nat := gstep4 (gstep3 (gstep2 (gstep1 x)))
theorem two64_pos : 0 < two64 := by unfold two64; omega
theorem gmul1_lt (x : Nat) : gmul1 x < two64 := Nat.mod_lt _ two64_pos
theorem gmul2_lt (x : Nat) : gmul2 x < two64 := Nat.mod_lt _ two64_pos
theorem gmul3_lt (x : Nat) : gmul3 x < two64 := Nat.mod_lt _ two64_pos
theorem xor_lt {a b : Nat} (ha : a < two64) (hb : b < two64) : a ^^^ b < two64 := by
  have h : two64 = 2 ^ 64 := rfl
  rw [h] at *
  exact Nat.xor_lt_two_pow ha hb
theorem div_lt {z : Nat} (n : Nat) (h : z < two64) : z / 2 ^ n < two64 := Nat.lt_of_le_of_lt (Nat.div_le_self _ _) h
theorem gearN_lt (x : Nat) : gearN x < two64 := by
  unfold gearN gstep4
  exact xor_lt (gmul3_lt _) (div_lt _ (gmul3_lt _))
theorem xor_u64 (a b : Nat) (ha : a < two64) (hb : b < two64) : bits .xor .u64 (a : Int) (b : Int) = ((a ^^^ b : Nat) : Int) := bits_xor_u64_nat a b ha hb
theorem wmul1 (x : Nat) : IntKind.u64.wrap (((x : Int) + 1) * 11400714819323198485) = ((gmul1 x : Nat) : Int) := by
  rw [IntKind.wrap_u64]; unfold gmul1 two64; omega
theorem wmul2 (x : Nat) : IntKind.u64.wrap ((x : Int) * 13787848793156543929) = ((gmul2 x : Nat) : Int) := by
  rw [IntKind.wrap_u64]; unfold gmul2 two64; omega
theorem wmul3 (x : Nat) : IntKind.u64.wrap ((x : Int) * 10723151780598845931) = ((gmul3 x : Nat) : Int) := by
  rw [IntKind.wrap_u64]; unfold gmul3 two64; omega
theorem halve (z k : Nat) : z / 2 ^ k / 2 = z / 2 ^ (k + 1) := by rw [Nat.div_div_eq_div_mul, Nat.pow_succ]
theorem halve_wrap (y : Nat) (h : y < two64) : IntKind.u64.wrap ((y : Int) / 2) = ((y / 2 : Nat) : Int) := by
  rw [IntKind.wrap_u64]; unfold two64 at h; omega
/-- Whether measures are wrong. -/
def wrongN (least most bits : Int) : Bool := decide (least < 1 ∨ most < least ∨ 1048576 < most ∨ bits < 0 ∨ 20 < bits)
end Go.Proofs.YteijekhmgedhoaaDoor
