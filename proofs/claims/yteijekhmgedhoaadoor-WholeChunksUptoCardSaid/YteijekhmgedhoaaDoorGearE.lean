/- The walks of Gear, Check and chunk. -/
import Derived.Test.YteijekhmgedhoaaDoorGearD
namespace Go.Proofs.YteijekhmgedhoaaDoor
open Go.RowKit

theorem shr30 (z : Nat) : ((z : Int) / 1073741824) = ((z / 2 ^ 30 : Nat) : Int) := by omega
theorem shr27 (z : Nat) : ((z : Int) / 134217728) = ((z / 2 ^ 27 : Nat) : Int) := by omega
theorem shr31 (z : Nat) : ((z : Int) / 2147483648) = ((z / 2 ^ 31 : Nat) : Int) := by omega
set_option maxRecDepth 100000 in
set_option maxHeartbeats 1000000 in
theorem gear_any (x : Nat) (w : World) (hx : x < 256) : Calls Tryd.prog 90 #[.int .u8 x] w fun e w' => e = .returned (.int .u64 ((gearN x : Nat) : Int)) ∧ w = w' := by
  have w1 := wmul1 x
  have w2 := wmul2 (gstep1 x ^^^ gstep1 x / 2 ^ 30)
  have w3 := wmul3 (gstep2 (gstep1 x) ^^^ gstep2 (gstep1 x) / 2 ^ 27)
  have l1 : gstep1 x < two64 := gmul1_lt x
  have l2 : gstep2 (gstep1 x) < two64 := gmul2_lt _
  have l3 : gstep3 (gstep2 (gstep1 x)) < two64 := gmul3_lt _
  have x1 := xor_u64 _ _ l1 (div_lt 30 l1)
  have x2 := xor_u64 _ _ l2 (div_lt 27 l2)
  have x3 := xor_u64 _ _ l3 (div_lt 31 l3)
  have HG : Hid (gearN x = gstep3 (gstep2 (gstep1 x)) ^^^ gstep3 (gstep2 (gstep1 x)) / 2 ^ 31) := Lib.hid rfl
  rw [show gmul1 x = gstep1 x from rfl] at w1
  rw [show gmul2 (gstep1 x ^^^ gstep1 x / 2 ^ 30) = gstep2 (gstep1 x) from rfl] at w2
  rw [show gmul3 (gstep2 (gstep1 x) ^^^ gstep2 (gstep1 x) / 2 ^ 27) = gstep3 (gstep2 (gstep1 x)) from rfl] at w3
  clear l1 l2 l3
  have d1 := shr30 (gstep1 x)
  have d2 := shr27 (gstep2 (gstep1 x))
  have d3 := shr31 (gstep3 (gstep2 (gstep1 x)))
  generalize gstep3 (gstep2 (gstep1 x)) = z3 at *
  generalize gstep2 (gstep1 x) = z2 at *
  generalize gstep1 x = z1 at *
  generalize z1 / 2 ^ 30 = y1 at *
  generalize z2 / 2 ^ 27 = y2 at *
  generalize z3 / 2 ^ 31 = y3 at *
  generalize z1 ^^^ y1 = q1 at *
  generalize z2 ^^^ y2 = q2 at *
  generalize z3 ^^^ y3 = q3 at *
  go_enter Tryd.func90, Tryd.ntmps90
  go_wp2_with fail

  go_ret
  exact ⟨by rw [HG.out]; rfl, rfl⟩
/-- Measures in memory. -/
abbrev par (a b c : Int) : Value := .agg #[.int .i64 a, .int .i64 b, .int .i64 c]
set_option maxHeartbeats 1000000 in
theorem check_any (a b c : Int) (w : World) : Calls Tryd.prog 80 #[par a b c] w fun e w' => e = .returned (.int .i64 (if wrongN a b c = true then 1 else 0)) ∧ Below w.heap.size w w' := by
  have HB : Hid (Below w.heap.size w (w.alloc (.cells #[.int .i64 a, .int .i64 b, .int .i64 c] 49))) := Lib.hid ((Below.refl _ _).alloc (Nat.le_refl _) _)
  by_cases h1 : a < 1
  · have g1 : decide (a < 1) = true := by simpa using h1
    rw [if_pos (show wrongN a b c = true by unfold wrongN; simp [h1])]
    clear h1
    go_enter Tryd.func80, Tryd.ntmps80
    go_wp2_with fail
    go_ret
    exact ⟨rfl, HB.out⟩
  have g1 : decide (a < 1) = false := by simpa using h1
  by_cases h2 : b < a
  · have g2 : decide (b < a) = true := by simpa using h2
    rw [if_pos (show wrongN a b c = true by unfold wrongN; simp [h2])]
    clear h1 h2
    go_enter Tryd.func80, Tryd.ntmps80
    go_wp2_with fail
    go_ret
    exact ⟨rfl, HB.out⟩
  have g2 : decide (b < a) = false := by simpa using h2
  by_cases h3 : 1048576 < b
  · have g3 : decide (1048576 < b) = true := by simpa using h3
    rw [if_pos (show wrongN a b c = true by unfold wrongN; simp [h3])]
    clear h1 h2 h3
    go_enter Tryd.func80, Tryd.ntmps80
    go_wp2_with fail
    go_ret
    exact ⟨rfl, HB.out⟩
  have g3 : decide (1048576 < b) = false := by simpa using h3
  by_cases h4 : c < 0
  · have g4 : decide (c < 0) = true := by simpa using h4
    rw [if_pos (show wrongN a b c = true by unfold wrongN; simp [h4])]
    clear h1 h2 h3 h4
    go_enter Tryd.func80, Tryd.ntmps80
    go_wp2_with fail
    go_ret
    exact ⟨rfl, HB.out⟩
  have g4 : decide (c < 0) = false := by simpa using h4
  by_cases h5 : 20 < c
  · have g5 : decide (20 < c) = true := by simpa using h5
    rw [if_pos (show wrongN a b c = true by unfold wrongN; simp [h5])]
    clear h1 h2 h3 h4 h5
    go_enter Tryd.func80, Tryd.ntmps80
    go_wp2_with fail
    go_ret
    exact ⟨rfl, HB.out⟩
  · have g5 : decide (20 < c) = false := by simpa using h5
    rw [if_neg (show ¬ wrongN a b c = true by unfold wrongN; simp; omega)]
    clear h1 h2 h3 h4 h5
    go_enter Tryd.func80, Tryd.ntmps80
    go_wp2_with fail
    go_ret
    exact ⟨rfl, HB.out⟩
end Go.Proofs.YteijekhmgedhoaaDoor
