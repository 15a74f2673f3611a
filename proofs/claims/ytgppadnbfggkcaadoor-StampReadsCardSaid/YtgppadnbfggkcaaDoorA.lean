/- Contracts of stamp's small functions: Canon, Key, Compare. -/
import Derived.Test.YtgppadnbfggkcaaDoorRows
import Derived.Test.YtgppadnbfggkcaaDoorM
import Derived.WalkKit
import Derived.WalkSpells
import Derived.WalkLawsBesides
import Derived.Lib.Hide
namespace Go.Proofs.YtgppadnbfggkcaaDoor
open Go.RowKit

theorem ret_int {k : IntKind} {a b : Int} (h : a = b) : Ending.returned (.int k a) = .returned (.int k b) := by rw [h]
theorem fb14 (b : Nat) (w : World) : (callFunc 14 #[.float .f64 b]).run Tryd.prog w = .ok (.value (.int .u64 b)) w := by
  rw [run_callFunc_extern (e := Extern.MathFloatBits.float64bits) Tryd.func14 (by kernel_rfl) (by kernel_rfl) (by kernel_rfl) (by kernel_rfl)]; rfl
theorem fb27 (n : Int) (w : World) : (callFunc 27 #[.int .u64 n]).run Tryd.prog w = .ok (.value (.float .f64 n.toNat)) w := by
  rw [run_callFunc_extern (e := Extern.MathFloatBits.float64frombits) Tryd.func27 (by kernel_rfl) (by kernel_rfl) (by kernel_rfl) (by kernel_rfl)]; rfl

set_option maxHeartbeats 400000 in
theorem isnan_any (b : Nat) (w : World) :
    Calls Tryd.prog 26 #[.float .f64 b] w fun e w' => e = .returned (.bool (nanB b)) ∧ w = w' := by
  go_enter Tryd.func26, Tryd.ntmps26
  go_wp2
  go_ret
  exact ⟨rfl, rfl⟩

set_option maxHeartbeats 400000 in
theorem canon_nan (b : Nat) (h : nanB b = true) (w : World) :
    Calls Tryd.prog 15 #[.float .f64 b] w fun e w' => e = .returned (.float .f64 9221120237041090560) ∧ w = w' := by
  have h27 := fb27 9221120237041090560
  go_enter Tryd.func15, Tryd.ntmps15
  go_wp2_with (go_at_call 26; refine (isnan_any _ _).mono ?_; rintro e w' ⟨rfl, rfl⟩)
  go_ret
  exact ⟨rfl, rfl⟩
set_option maxHeartbeats 400000 in
theorem canon_num (b : Nat) (h : nanB b = false) (w : World) :
    Calls Tryd.prog 15 #[.float .f64 b] w fun e w' => e = .returned (.float .f64 b) ∧ w = w' := by
  go_enter Tryd.func15, Tryd.ntmps15
  go_wp2_with (go_at_call 26; refine (isnan_any _ _).mono ?_; rintro e w' ⟨rfl, rfl⟩)
  go_ret
  exact ⟨rfl, rfl⟩
theorem canon_any (b : Nat) (w : World) :
    Calls Tryd.prog 15 #[.float .f64 b] w fun e w' => e = .returned (.float .f64 (canonB b)) ∧ w = w' := by
  unfold canonB
  by_cases h : nanB b = true
  · rw [if_pos h]; exact canon_nan b h w
  · rw [if_neg h]; exact canon_num b (by simpa using h) w

theorem key_top {x : Nat} (hx : x < 18446744073709551616) (h : (bits BinOp.and IntKind.u64 (x : Int) 9223372036854775808 != 0) = true) :
    topB x = true ∧ bits BinOp.xor IntKind.u64 IntKind.u64.max (x : Int) = ((18446744073709551615 - x : Nat) : Int) := by
  have e := u64_and_nat x 9223372036854775808 hx (by omega)
  rw [show (9223372036854775808 : Nat) = 2 ^ 63 from rfl, nat_bit] at e
  have hm : IntKind.u64.max = ((18446744073709551615 : Nat) : Int) := by decide
  rw [show ((9223372036854775808 : Int)) = ((2 ^ 63 : Nat) : Int) from rfl, e] at h
  refine ⟨?_, ?_⟩
  · unfold topB; simp at h ⊢; omega
  · rw [hm, u64_xor_nat _ _ (by omega) hx]
    congr 1
    apply Nat.eq_of_testBit_eq
    intro i
    rw [Nat.testBit_xor, show (18446744073709551615 : Nat) = 2 ^ 64 - 1 from rfl, Nat.testBit_two_pow_sub_one, show (2 ^ 64 - 1 - x) = 2 ^ 64 - (x + 1) by omega, Nat.testBit_two_pow_sub_succ (by omega)]
    by_cases hi : i < 64
    · simp [hi]
    · simp [hi, Nat.testBit_lt_two_pow (Nat.lt_of_lt_of_le hx (show 18446744073709551616 ≤ 2 ^ i from Nat.pow_le_pow_right (n := 2) (by omega) (show 64 ≤ i by omega)))]
theorem key_low {x : Nat} (hx : x < 18446744073709551616) (h : (bits BinOp.and IntKind.u64 (x : Int) 9223372036854775808 != 0) = false) :
    topB x = false ∧ bits BinOp.or IntKind.u64 (x : Int) 9223372036854775808 = ((x + 9223372036854775808 : Nat) : Int) := by
  have e := u64_and_nat x 9223372036854775808 hx (by omega)
  rw [show (9223372036854775808 : Nat) = 2 ^ 63 from rfl, nat_bit] at e
  rw [show ((9223372036854775808 : Int)) = ((2 ^ 63 : Nat) : Int) from rfl, e] at h
  have hl : x < 2 ^ 63 := by simp at h; omega
  refine ⟨?_, ?_⟩
  · unfold topB; simp; omega
  · rw [show ((9223372036854775808 : Int)) = ((2 ^ 63 : Nat) : Int) from rfl, u64_or_nat _ _ hx (by omega)]
    congr 1
    rw [Nat.or_comm, nat_join 63 _ _ (by omega) hl]; omega
theorem canonB_lt {b : Nat} (hb : b < 18446744073709551616) : canonB b < 18446744073709551616 := by
  unfold canonB; split <;> omega

set_option maxHeartbeats 400000 in
theorem key_any (b : Nat) (hb : b < 18446744073709551616) (w : World) :
    Calls Tryd.prog 11 #[.float .f64 b] w fun e w' => e = .returned (.int .u64 (keyN b)) ∧ w = w' := by
  have h14 := fb14
  have hc := canonB_lt hb
  unfold keyN
  generalize hx : canonB b = x at hc
  have Hx := Lib.hid hx
  clear hx
  go_enter Tryd.func11, Tryd.ntmps11
  go_wp2_with (go_at_call 15; refine (canon_any _ _).mono ?_; rw [Hx.out]; rintro e w' ⟨rfl, rfl⟩)
  · have h : (bits BinOp.and IntKind.u64 (x : Int) 9223372036854775808 != 0) = true := by assumption
    obtain ⟨h1, h2⟩ := key_top hc h
    go_ret
    refine ⟨ret_int ?_, rfl⟩
    unfold keyX; rw [if_pos h1]; exact h2
  · have h : (bits BinOp.and IntKind.u64 (x : Int) 9223372036854775808 != 0) = false := by assumption
    obtain ⟨h1, h2⟩ := key_low hc h
    go_ret
    refine ⟨ret_int ?_, rfl⟩
    unfold keyX; rw [if_neg (by rw [h1]; decide)]; exact h2
def cmpN (a b : Nat) : Int := if a < b then -1 else if b < a then 1 else 0
set_option maxHeartbeats 400000 in
theorem cmp64_any (a b : Nat) (w : World) :
    Calls Tryd.prog 25 #[.int .u64 a, .int .u64 b] w fun e w' => e = .returned (.int .i64 (cmpN a b)) ∧ w = w' := by
  unfold cmpN
  go_enter Tryd.func25, Tryd.ntmps25
  go_wp2
  all_goals (go_ret; exact ⟨rfl, rfl⟩)
set_option maxHeartbeats 400000 in
theorem compare_any (a b : Nat) (ha : a < 18446744073709551616) (hb : b < 18446744073709551616) (w : World) :
    Calls Tryd.prog 13 #[.float .f64 a, .float .f64 b] w fun e w' => e = .returned (.int .i64 (cmpN (keyN a) (keyN b))) ∧ w = w' := by
  go_enter Tryd.func13, Tryd.ntmps13
  go_wp2_with fail
  refine (key_any a ha _).mono ?_; rintro e w' ⟨rfl, rfl⟩
  go_wp2_with fail
  refine (key_any b hb _).mono ?_; rintro e w' ⟨rfl, rfl⟩
  go_wp2_with fail
  refine (cmp64_any _ _ _).mono ?_; rintro e w' ⟨rfl, rfl⟩
  go_wp2_with fail
  go_ret
  exact ⟨rfl, rfl⟩
end Go.Proofs.YtgppadnbfggkcaaDoor
