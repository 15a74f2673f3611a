/- The walks of RotateLeft32 (to the right by n) and turned. -/
import Derived.Test.YteijekhmgedhoaaDoorShaF
namespace Go.Proofs.YteijekhmgedhoaaDoor
open Go.RowKit

theorem and31 {n : Nat} (h1 : 1 ≤ n) (h2 : n ≤ 31) : bits .and .u64 (IntKind.u64.wrap (-(n : Int))) 31 = ((32 - n : Nat) : Int) := by
  have h : n = 1 ∨ n = 2 ∨ n = 3 ∨ n = 4 ∨ n = 5 ∨ n = 6 ∨ n = 7 ∨ n = 8 ∨ n = 9 ∨ n = 10 ∨ n = 11 ∨ n = 12 ∨ n = 13 ∨ n = 14 ∨ n = 15 ∨ n = 16 ∨ n = 17 ∨ n = 18 ∨ n = 19 ∨ n = 20 ∨ n = 21 ∨ n = 22 ∨ n = 23 ∨ n = 24 ∨ n = 25 ∨ n = 26 ∨ n = 27 ∨ n = 28 ∨ n = 29 ∨ n = 30 ∨ n = 31 := by omega
  rcases h with rfl | rfl | rfl | rfl | rfl | rfl | rfl | rfl | rfl | rfl | rfl | rfl | rfl | rfl | rfl | rfl | rfl | rfl | rfl | rfl | rfl | rfl | rfl | rfl | rfl | rfl | rfl | rfl | rfl | rfl | rfl <;> decide +kernel
theorem bits_or_u32_nat (a b : Nat) (ha : a < two32) (hb : b < two32) : bits .or .u32 (a : Int) (b : Int) = ((a ||| b : Nat) : Int) := by
  have e : two32 = 2 ^ 32 := rfl
  rw [e] at ha hb
  have hx : a ||| b < 2 ^ 32 := Nat.or_lt_two_pow ha hb
  have h1 : (BitVec.ofInt 32 (a : Int)).toNat = a := by
    rw [BitVec.ofInt_natCast, BitVec.toNat_ofNat]; exact Nat.mod_eq_of_lt ha
  have h2 : (BitVec.ofInt 32 (b : Int)).toNat = b := by
    rw [BitVec.ofInt_natCast, BitVec.toNat_ofNat]; exact Nat.mod_eq_of_lt hb
  show IntKind.u32.wrap ((BitVec.ofInt 32 (a : Int) ||| BitVec.ofInt 32 (b : Int)).toNat : Int) = _
  rw [BitVec.toNat_or, h1, h2]
  simp [IntKind.wrap, IntKind.bits, IntKind.signed]; omega
theorem bits_xor_u32_nat (a b : Nat) (ha : a < two32) (hb : b < two32) : bits .xor .u32 (a : Int) (b : Int) = ((a ^^^ b : Nat) : Int) := by
  have e : two32 = 2 ^ 32 := rfl
  rw [e] at ha hb
  have hx : a ^^^ b < 2 ^ 32 := Nat.xor_lt_two_pow ha hb
  have h1 : (BitVec.ofInt 32 (a : Int)).toNat = a := by
    rw [BitVec.ofInt_natCast, BitVec.toNat_ofNat]; exact Nat.mod_eq_of_lt ha
  have h2 : (BitVec.ofInt 32 (b : Int)).toNat = b := by
    rw [BitVec.ofInt_natCast, BitVec.toNat_ofNat]; exact Nat.mod_eq_of_lt hb
  show IntKind.u32.wrap ((BitVec.ofInt 32 (a : Int) ^^^ BitVec.ofInt 32 (b : Int)).toNat : Int) = _
  rw [BitVec.toNat_xor, h1, h2]
  simp [IntKind.wrap, IntKind.bits, IntKind.signed]; omega
theorem bits_and_u32_nat (a b : Nat) (ha : a < two32) (hb : b < two32) : bits .and .u32 (a : Int) (b : Int) = ((a &&& b : Nat) : Int) := by
  have e : two32 = 2 ^ 32 := rfl
  rw [e] at ha hb
  have hx : a &&& b < 2 ^ 32 := Nat.lt_of_le_of_lt Nat.and_le_left ha
  have h1 : (BitVec.ofInt 32 (a : Int)).toNat = a := by
    rw [BitVec.ofInt_natCast, BitVec.toNat_ofNat]; exact Nat.mod_eq_of_lt ha
  have h2 : (BitVec.ofInt 32 (b : Int)).toNat = b := by
    rw [BitVec.ofInt_natCast, BitVec.toNat_ofNat]; exact Nat.mod_eq_of_lt hb
  show IntKind.u32.wrap ((BitVec.ofInt 32 (a : Int) &&& BitVec.ofInt 32 (b : Int)).toNat : Int) = _
  rw [BitVec.toNat_and, h1, h2]
  simp [IntKind.wrap, IntKind.bits, IntKind.signed]; omega
theorem wrap_u32 (n : Int) : IntKind.u32.wrap n = n % 4294967296 := by simp [IntKind.wrap, IntKind.bits, IntKind.signed]
/-- Turned: what is moved out comes in again. -/
theorem rot_or {x n : Nat} (hx : x < two32) (h1 : 1 ≤ n) (h2 : n ≤ 31) : bits .or .u32 (IntKind.u32.wrap ((x : Int) * 2 ^ (32 - n))) ((x : Int) / 2 ^ n) = ((rotN x n : Nat) : Int) := by
  have hp : two32 = 2 ^ n * 2 ^ (32 - n) := by rw [← Nat.pow_add, show n + (32 - n) = 32 by omega]; rfl
  have hd : two32 / 2 ^ n = 2 ^ (32 - n) := by rw [hp, Nat.mul_div_cancel_left _ (Nat.two_pow_pos n)]
  have hw : IntKind.u32.wrap ((x : Int) * 2 ^ (32 - n)) = ((x % 2 ^ n * 2 ^ (32 - n) : Nat) : Int) := by
    rw [wrap_u32, ← Nat.mul_mod_mul_right, ← hp]
    simp [two32]
  have hr : ((x : Int) / 2 ^ n) = ((x / 2 ^ n : Nat) : Int) := by simp
  have hb : x / 2 ^ n < 2 ^ (32 - n) := by
    rw [Nat.div_lt_iff_lt_mul (Nat.two_pow_pos n), Nat.mul_comm, ← hp]; exact hx
  have ha : x % 2 ^ n * 2 ^ (32 - n) < two32 := by
    rw [hp]; exact Nat.mul_lt_mul_of_pos_right (Nat.mod_lt _ (Nat.two_pow_pos n)) (Nat.two_pow_pos _)
  rw [hw, hr, bits_or_u32_nat _ _ ha (Nat.lt_of_le_of_lt (Nat.div_le_self _ _) hx)]
  congr 1
  unfold rotN
  rw [hd, Nat.mul_comm, ← Nat.two_pow_add_eq_or_of_lt hb, Nat.mul_comm, Nat.add_comm]
set_option maxRecDepth 100000 in
set_option maxHeartbeats 1000000 in
theorem rot_any (x n : Nat) (m : Int) (w : World) (hm : m = -(n : Int)) (hx : x < two32) (h1 : 1 ≤ n) (h2 : n ≤ 31) : Calls Tryd.prog 83 #[.int .u32 x, .int .i64 m] w fun e w' => e = .returned (.int .u32 ((rotN x n : Nat) : Int)) ∧ w = w' := by
  have ha := and31 h1 h2
  have HR := Lib.hid (rot_or hx h1 h2)
  rw [← hm] at ha
  obtain ⟨s, hs⟩ : ∃ s : Nat, s = 32 - n := ⟨_, rfl⟩
  rw [← hs] at ha HR
  have hs1 : 1 ≤ s := by omega
  have hs2 : s ≤ 31 := by omega
  have hsn : (32 : Int) - (s : Int) = (n : Int) := by omega
  clear hm hs hx
  go_enter Tryd.func83, Tryd.ntmps83
  go_wp2_with fail
  go_ret
  refine ⟨?_, rfl⟩
  rw [← HR.out, wrap_u32]
  rfl
set_option maxRecDepth 100000 in
set_option maxHeartbeats 1000000 in
theorem turned_any (x a b c : Nat) (w : World) (hx : x < two32) (ha : 1 ≤ a ∧ a ≤ 31) (hb : 1 ≤ b ∧ b ≤ 31) (hc : 1 ≤ c ∧ c ≤ 31) : Calls Tryd.prog 66 #[.int .u32 x, .int .i64 a, .int .i64 b, .int .i64 c] w fun e w' => e = .returned (.int .u32 (((rotN x a ^^^ rotN x b) ^^^ rotN x c : Nat) : Int)) ∧ w = w' := by
  have HA := Lib.hid (fun w => rot_any x a _ w rfl hx ha.1 ha.2)
  have HB := Lib.hid (fun w => rot_any x b _ w rfl hx hb.1 hb.2)
  have HC := Lib.hid (fun w => rot_any x c _ w rfl hx hc.1 hc.2)
  have e : two32 = 2 ^ 32 := rfl
  have l1 := rotN_lt hx ha.2
  have l2 := rotN_lt hx hb.2
  have l3 := rotN_lt hx hc.2
  have x1 := bits_xor_u32_nat _ _ l1 l2
  have x2 := bits_xor_u32_nat (rotN x a ^^^ rotN x b) (rotN x c) (by rw [e] at *; exact Nat.xor_lt_two_pow l1 l2) l3
  obtain ⟨ha1, ha2⟩ := ha
  obtain ⟨hb1, hb2⟩ := hb
  obtain ⟨hc1, hc2⟩ := hc
  clear l1 l2 l3 hx e
  generalize rotN x a ^^^ rotN x b ^^^ rotN x c = r2 at *
  generalize rotN x a ^^^ rotN x b = r1 at *
  generalize rotN x a = p at *
  generalize rotN x b = q at *
  generalize rotN x c = r at *
  go_enter Tryd.func66, Tryd.ntmps66
  go_wp2_with fail
  refine (HA.out _).mono ?_
  rintro e w' ⟨rfl, rfl⟩
  go_wp2_with fail
  refine (HB.out _).mono ?_
  rintro e w' ⟨rfl, rfl⟩
  go_wp2_with fail
  refine (HC.out _).mono ?_
  rintro e w' ⟨rfl, rfl⟩
  go_wp2_with fail
  go_ret
  exact ⟨rfl, rfl⟩
end Go.Proofs.YteijekhmgedhoaaDoor
