/- Numbers of 32 bits turned and moved: the walks of the reference's turn and drop; ids as bytes; the walk of the reference's Hex. -/
import Derived.Test.YteijekhmgedhoaaDoorBase
import Derived.Deep.QuietTactic
import Derived.BigQuiet
namespace Go.Proofs.YteijekhmgedhoaaDoor
open Go.RowKit

def two32 : Nat := 4294967296
def rotN (x n : Nat) : Nat := x / 2 ^ n + x % 2 ^ n * (two32 / 2 ^ n)
theorem pow31 {n : Nat} (h : n ≤ 31) : 1 ≤ 2 ^ n ∧ 2 ^ n ≤ 2147483648 := by
  refine ⟨Nat.two_pow_pos _, ?_⟩
  have := Nat.pow_le_pow_right (n := 2) (by omega) h
  simpa using this
theorem rotN_lt {x n : Nat} (hx : x < two32) (hn : n ≤ 31) : rotN x n < two32 := by
  have h : n = 0 ∨ n = 1 ∨ n = 2 ∨ n = 3 ∨ n = 4 ∨ n = 5 ∨ n = 6 ∨ n = 7 ∨ n = 8 ∨ n = 9 ∨ n = 10 ∨ n = 11 ∨ n = 12 ∨ n = 13 ∨ n = 14 ∨ n = 15 ∨ n = 16 ∨ n = 17 ∨ n = 18 ∨ n = 19 ∨ n = 20 ∨ n = 21 ∨ n = 22 ∨ n = 23 ∨ n = 24 ∨ n = 25 ∨ n = 26 ∨ n = 27 ∨ n = 28 ∨ n = 29 ∨ n = 30 ∨ n = 31 := by omega
  unfold rotN two32 at *
  rcases h with rfl | rfl | rfl | rfl | rfl | rfl | rfl | rfl | rfl | rfl | rfl | rfl | rfl | rfl | rfl | rfl | rfl | rfl | rfl | rfl | rfl | rfl | rfl | rfl | rfl | rfl | rfl | rfl | rfl | rfl | rfl | rfl <;>
    (simp only [Nat.reducePow, Nat.reduceDiv]; omega)
theorem halve32 (z k : Nat) : z / 2 ^ k / 2 = z / 2 ^ (k + 1) := by rw [Nat.div_div_eq_div_mul, Nat.pow_succ]
set_option maxHeartbeats 400000 in
theorem drop_any (z n : Nat) (w : World) (hz : z < two32) (hn : n ≤ 64) : Calls Tryd.prog 37 #[.int .u64 z, .int .i64 n] w fun e w' => e = .returned (.int .u64 ((z / 2 ^ n : Nat) : Int)) ∧ w = w' := by
  have HZ := Lib.hid hz
  clear hz
  go_enter Tryd.func37, Tryd.ntmps37
  go_wp2_with fail
  go_loop [0, 5] (fun y i => ∃ k : Nat, k ≤ n ∧ i = .int .i64 k ∧ y = .int .u64 ((z / 2 ^ k : Nat) : Int)) (fun _ i => n - (intOf i).toNat)
  case atStart => exact ⟨0, Nat.zero_le _, rfl, by simp⟩
  case round =>
    obtain ⟨k, hk, rfl, rfl⟩ := hrel
    by_cases hlt : k < n
    · have HS := Lib.hid (halve32 z k)
      have hy : z / 2 ^ k < 4294967296 := Nat.lt_of_le_of_lt (Nat.div_le_self _ _) HZ.out
      generalize z / 2 ^ k = y at *
      go_wp2_with fail
      go_round
      case rel => exact ⟨k + 1, by omega, by go_num, congrArg (Value.int .u64) (by rw [← HS.out]; omega)⟩
      case measure => simp [intOf]; omega
    · have hkn : k = n := by omega
      subst hkn
      go_wp2_with fail
      go_ret
      exact ⟨rfl, rfl⟩
set_option maxHeartbeats 1000000 in
theorem turn_any (x n : Nat) (w : World) (hx : x < two32) (hn : n ≤ 31) : Calls Tryd.prog 36 #[.int .u64 x, .int .i64 n] w fun e w' => e = .returned (.int .u64 ((rotN x n : Nat) : Int)) ∧ ∃ d, w' = w.drewN d := by
  have HX := Lib.hid hx
  have HRL := Lib.hid (rotN_lt hx hn)
  have HRD : Hid (rotN x n = x / 2 ^ n + x % 2 ^ n * (two32 / 2 ^ n)) := Lib.hid rfl
  clear hx
  go_enter Tryd.func36, Tryd.ntmps36
  go_wp2_with fail
  go_loop [5, 6] (fun y i => ∃ k : Nat, k ≤ n ∧ i = .int .i64 k ∧ y = .int .u64 ((2 ^ k : Nat) : Int)) (fun _ i => n - (intOf i).toNat)
  case atStart => exact ⟨0, Nat.zero_le _, rfl, rfl⟩
  case round =>
    obtain ⟨k, hk, rfl, rfl⟩ := hrel
    by_cases hlt : k < n
    · have HP := Lib.hid (show 2 ^ (k + 1) = 2 ^ k * 2 from Nat.pow_succ ..)
      have hp := (pow31 (n := k) (by omega)).2
      generalize 2 ^ k = p at *
      go_wp2_with fail
      go_round
      case rel => exact ⟨k + 1, by omega, by go_num, congrArg (Value.int .u64) (by rw [HP.out]; omega)⟩
      case measure => simp [intOf]; omega
    · have hkn : k = n := by omega
      subst hkn
      obtain ⟨hp1, hp2⟩ := pow31 hn
      have hxl : x < 4294967296 := HX.out
      have hrl : rotN x k < 4294967296 := HRL.out
      have hpr0 : x % 2 ^ k * (two32 / 2 ^ k) ≤ rotN x k := by rw [HRD.out]; exact Nat.le_add_left ..
      have hr := HRD.out
      generalize 2 ^ k = p at *
      have hp0 : ((p : Int) == 0) = false := by rw [beq_eq_false_iff_ne]; omega
      have e1 : (x : Int) / (p : Int) = ((x / p : Nat) : Int) := by rw [Int.natCast_ediv]
      have e2 : (x : Int) % (p : Int) = ((x % p : Nat) : Int) := by rw [Int.natCast_emod]
      have e3 : (4294967296 : Int) / (p : Int) = ((two32 / p : Nat) : Int) := by rw [Int.natCast_ediv]; rfl
      have hd1 : x / p ≤ x := Nat.div_le_self _ _
      have hd2 : x % p ≤ x := Nat.mod_le x p
      have hd3 : two32 / p ≤ 4294967296 := Nat.div_le_self _ _
      have e4 : ((x % p : Nat) : Int) * ((two32 / p : Nat) : Int) = ((x % p * (two32 / p) : Nat) : Int) := by push_cast; rfl
      have hpr : x % p * (two32 / p) < 4294967296 := Nat.lt_of_le_of_lt hpr0 hrl
      generalize x % p * (two32 / p) = m at *
      generalize two32 / p = g at *
      generalize x / p = q at *
      generalize x % p = r at *
      have w1 : IntKind.u64.wrap ((x : Int) / (p : Int)) = (q : Int) := by rw [e1, IntKind.wrap_u64]; omega
      have w2 : IntKind.u64.wrap ((x : Int) % (p : Int)) = (r : Int) := by rw [e2, IntKind.wrap_u64]; omega
      have w3 : IntKind.u64.wrap ((4294967296 : Int) / (p : Int)) = (g : Int) := by rw [e3, IntKind.wrap_u64]; omega
      have HE1 := Lib.hid e1
      have HE2 := Lib.hid e2
      have HE3 := Lib.hid e3
      have HR := Lib.hid hr
      go_wp2_with fail
      go_quiet (fail)
      go_wp2_with fail
      go_ret
      exact ⟨by rw [HR.out]; rfl, _, rfl⟩
end Go.Proofs.YteijekhmgedhoaaDoor
