/- A byte's own number, and the walks of the reference's down, Gear, Wrong. -/
import Derived.Test.YtgfnlplgkgoinaaBase
import Derived.Laws.Bits64
namespace Go.Proofs.Ytgfnlplgkgoinaa
open Go.RowKit

def two64 : Nat := 18446744073709551616
def gmul1 (x : Nat) : Nat := (x + 1) * 11400714819323198485 % two64
def gmul2 (z : Nat) : Nat := z * 13787848793156543929 % two64
def gmul3 (z : Nat) : Nat := z * 10723151780598845931 % two64
def gstep1 (x : Nat) : Nat := gmul1 x
def gstep2 (z : Nat) : Nat := gmul2 (z ^^^ z / 2 ^ 30)
def gstep3 (z : Nat) : Nat := gmul3 (z ^^^ z / 2 ^ 27)
def gstep4 (z : Nat) : Nat := z ^^^ z / 2 ^ 31
def gearN (x : Nat) : Nat := gstep4 (gstep3 (gstep2 (gstep1 x)))
theorem two64_pos : 0 < two64 := by unfold two64; omega
theorem gmul1_lt (x : Nat) : gmul1 x < two64 := Nat.mod_lt _ two64_pos
theorem gmul2_lt (x : Nat) : gmul2 x < two64 := Nat.mod_lt _ two64_pos
theorem gmul3_lt (x : Nat) : gmul3 x < two64 := Nat.mod_lt _ two64_pos
theorem xor_lt {a b : Nat} (ha : a < two64) (hb : b < two64) : a ^^^ b < two64 := by
  have h : two64 = 2 ^ 64 := rfl
  rw [h] at *
  exact Nat.xor_lt_two_pow ha hb
theorem div_lt {z : Nat} (n : Nat) (h : z < two64) : z / 2 ^ n < two64 := Nat.lt_of_le_of_lt (Nat.div_le_self _ _) h
theorem gearN_lt (x : Nat) : gearN x < two64 := by
  unfold gearN gstep4
  exact xor_lt (gmul3_lt _) (div_lt _ (gmul3_lt _))
theorem xor_u64 (a b : Nat) (ha : a < two64) (hb : b < two64) : bits .xor .u64 (a : Int) (b : Int) = ((a ^^^ b : Nat) : Int) := bits_xor_u64_nat a b ha hb
theorem wmul1 (x : Nat) : IntKind.u64.wrap (((x : Int) + 1) * 11400714819323198485) = ((gmul1 x : Nat) : Int) := by
  rw [IntKind.wrap_u64]; unfold gmul1 two64; omega
theorem wmul2 (x : Nat) : IntKind.u64.wrap ((x : Int) * 13787848793156543929) = ((gmul2 x : Nat) : Int) := by
  rw [IntKind.wrap_u64]; unfold gmul2 two64; omega
theorem wmul3 (x : Nat) : IntKind.u64.wrap ((x : Int) * 10723151780598845931) = ((gmul3 x : Nat) : Int) := by
  rw [IntKind.wrap_u64]; unfold gmul3 two64; omega
theorem halve (z k : Nat) : z / 2 ^ k / 2 = z / 2 ^ (k + 1) := by rw [Nat.div_div_eq_div_mul, Nat.pow_succ]
theorem halve_wrap (y : Nat) (h : y < two64) : IntKind.u64.wrap ((y : Int) / 2) = ((y / 2 : Nat) : Int) := by
  rw [IntKind.wrap_u64]; unfold two64 at h; omega
set_option maxHeartbeats 400000 in
theorem down_any (z n : Nat) (w : World) (hz : z < two64) (hn : n ≤ 64) : Calls Try.prog 22 #[.int .u64 z, .int .i64 n] w fun e w' => e = .returned (.int .u64 ((z / 2 ^ n : Nat) : Int)) ∧ w = w' := by
  have HZ := Lib.hid hz
  clear hz
  go_enter Try.func22, Try.ntmps22
  go_wp2_with fail
  go_loop [0, 5] (fun y i => ∃ k : Nat, k ≤ n ∧ i = .int .i64 k ∧ y = .int .u64 ((z / 2 ^ k : Nat) : Int)) (fun _ i => n - (intOf i).toNat)
  case atStart => exact ⟨0, Nat.zero_le _, rfl, by simp⟩
  case round =>
    obtain ⟨k, hk, rfl, rfl⟩ := hrel
    by_cases hlt : k < n
    · have hw := halve_wrap (z / 2 ^ k) (div_lt k HZ.out)
      have HS := Lib.hid (halve z k)
      generalize z / 2 ^ k = y at *
      go_wp2_with fail
      go_round
      case rel => exact ⟨k + 1, by omega, by go_num, congrArg (Value.int .u64) (by rw [← HS.out]; omega)⟩
      case measure => simp [intOf]; omega
    · have hkn : k = n := by omega
      subst hkn
      go_wp2_with fail
      go_ret
      exact ⟨rfl, rfl⟩
set_option maxRecDepth 100000 in
set_option maxHeartbeats 1000000 in
theorem rgear_any (x : Nat) (w : World) (hx : x < 256) : Calls Try.prog 14 #[.int .u8 x] w fun e w' => e = .returned (.int .u64 ((gearN x : Nat) : Int)) ∧ w = w' := by
  have w1 := wmul1 x
  have w2 := wmul2 (gstep1 x ^^^ gstep1 x / 2 ^ 30)
  have w3 := wmul3 (gstep2 (gstep1 x) ^^^ gstep2 (gstep1 x) / 2 ^ 27)
  have l1 : gstep1 x < two64 := gmul1_lt x
  have l2 : gstep2 (gstep1 x) < two64 := gmul2_lt _
  have l3 : gstep3 (gstep2 (gstep1 x)) < two64 := gmul3_lt _
  have x1 := xor_u64 _ _ l1 (div_lt 30 l1)
  have x2 := xor_u64 _ _ l2 (div_lt 27 l2)
  have x3 := xor_u64 _ _ l3 (div_lt 31 l3)
  have d1 := fun w => down_any _ 30 w l1 (by omega)
  have d2 := fun w => down_any _ 27 w l2 (by omega)
  have d3 := fun w => down_any _ 31 w l3 (by omega)
  have HG : Hid (gearN x = gstep3 (gstep2 (gstep1 x)) ^^^ gstep3 (gstep2 (gstep1 x)) / 2 ^ 31) := Lib.hid rfl
  rw [show gmul1 x = gstep1 x from rfl] at w1
  rw [show gmul2 (gstep1 x ^^^ gstep1 x / 2 ^ 30) = gstep2 (gstep1 x) from rfl] at w2
  rw [show gmul3 (gstep2 (gstep1 x) ^^^ gstep2 (gstep1 x) / 2 ^ 27) = gstep3 (gstep2 (gstep1 x)) from rfl] at w3
  have D1 := Lib.hid d1
  have D2 := Lib.hid d2
  have D3 := Lib.hid d3
  clear d1 d2 d3 l1 l2 l3
  generalize gstep3 (gstep2 (gstep1 x)) = z3 at *
  generalize gstep2 (gstep1 x) = z2 at *
  generalize gstep1 x = z1 at *
  generalize z1 / 2 ^ 30 = y1 at *
  generalize z2 / 2 ^ 27 = y2 at *
  generalize z3 / 2 ^ 31 = y3 at *
  generalize z1 ^^^ y1 = q1 at *
  generalize z2 ^^^ y2 = q2 at *
  generalize z3 ^^^ y3 = q3 at *
  go_enter Try.func14, Try.ntmps14
  go_wp2_with fail
  refine (D1.out _).mono ?_
  rintro e w' ⟨rfl, rfl⟩
  go_wp2_with fail
  refine (D2.out _).mono ?_
  rintro e w' ⟨rfl, rfl⟩
  go_wp2_with fail
  refine (D3.out _).mono ?_
  rintro e w' ⟨rfl, rfl⟩
  go_wp2_with fail
  go_ret
  exact ⟨by rw [HG.out]; rfl, rfl⟩
/-- Whether measures are wrong. -/
def wrongN (least most bits : Int) : Bool := decide (least < 1 ∨ most < least ∨ 1048576 < most ∨ bits < 0 ∨ 20 < bits)
set_option maxHeartbeats 1000000 in
theorem rwrong_any (a b c : Int) (w : World) : Calls Try.prog 11 #[.int .i64 a, .int .i64 b, .int .i64 c] w fun e w' => e = .returned (.int .i64 (if wrongN a b c = true then 1 else 0)) ∧ w = w' := by
  by_cases h1 : a < 1
  · have g1 : decide (a < 1) = true := by simpa using h1
    rw [if_pos (show wrongN a b c = true by unfold wrongN; simp [h1])]
    go_enter Try.func11, Try.ntmps11
    go_wp2_with fail
    go_ret
    exact ⟨rfl, rfl⟩
  have g1 : decide (a < 1) = false := by simpa using h1
  by_cases h2 : b < a
  · have g2 : decide (b < a) = true := by simpa using h2
    rw [if_pos (show wrongN a b c = true by unfold wrongN; simp [h2])]
    go_enter Try.func11, Try.ntmps11
    go_wp2_with fail
    go_ret
    exact ⟨rfl, rfl⟩
  have g2 : decide (b < a) = false := by simpa using h2
  by_cases h3 : 1048576 < b
  · have g3 : decide (1048576 < b) = true := by simpa using h3
    rw [if_pos (show wrongN a b c = true by unfold wrongN; simp [h3])]
    go_enter Try.func11, Try.ntmps11
    go_wp2_with fail
    go_ret
    exact ⟨rfl, rfl⟩
  have g3 : decide (1048576 < b) = false := by simpa using h3
  by_cases h4 : c < 0
  · have g4 : decide (c < 0) = true := by simpa using h4
    rw [if_pos (show wrongN a b c = true by unfold wrongN; simp [h4])]
    go_enter Try.func11, Try.ntmps11
    go_wp2_with fail
    go_ret
    exact ⟨rfl, rfl⟩
  have g4 : decide (c < 0) = false := by simpa using h4
  by_cases h5 : 20 < c
  · have g5 : decide (20 < c) = true := by simpa using h5
    rw [if_pos (show wrongN a b c = true by unfold wrongN; simp [h5])]
    go_enter Try.func11, Try.ntmps11
    go_wp2_with fail
    go_ret
    exact ⟨rfl, rfl⟩
  · have g5 : decide (20 < c) = false := by simpa using h5
    rw [if_neg (show ¬ wrongN a b c = true by unfold wrongN; simp; omega)]
    go_enter Try.func11, Try.ntmps11
    go_wp2_with fail
    go_ret
    exact ⟨rfl, rfl⟩
end Go.Proofs.Ytgfnlplgkgoinaa
