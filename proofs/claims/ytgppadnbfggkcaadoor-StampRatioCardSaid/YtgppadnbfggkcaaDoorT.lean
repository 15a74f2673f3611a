/- The walk of StampRatio. -/
import Derived.Test.YtgppadnbfggkcaaDoorH
import Derived.Test.YtgppadnbfggkcaaDoorS
namespace Go.Proofs.YtgppadnbfggkcaaDoor
open Go.RowKit

theorem run_quo {x y z : Nat} (h : Ieee.double.div x y = some z) (w : World) : (binOp .quo 22 (.float .f64 x) (.float .f64 y)).run Tryd.prog w = .ok (.float .f64 z) w :=
  run_float_arith w .quo 22 .f64 x y z h
theorem run_quo_none (w : World) : ∃ v, nanB v = true ∧ (binOp .quo 22 (.float .f64 0) (.float .f64 0)).run Tryd.prog w = .ok (.float .f64 v) w.drew := by
  have h : FloatKind.f64.format.div 0 0 = none := zero_zero
  refine ⟨(Question.nanBits .f64 0 0).cut (w.tape w.drawn (.nanBits .f64 0 0)), ?_, ?_⟩
  · show nanB ((w.tape w.drawn (.nanBits .f64 0 0) % 2) * 2 ^ 63 + 0x7ff0000000000000 + 1 + (w.tape w.drawn (.nanBits .f64 0 0) / 2) % (2 ^ 52 - 1)) = true
    generalize w.tape w.drawn (.nanBits .f64 0 0) = t
    have h1 : t % 2 = 0 ∨ t % 2 = 1 := by omega
    have h2 : t / 2 % (2 ^ 52 - 1) < 4503599627370495 := Nat.mod_lt _ (by decide)
    generalize t / 2 % (2 ^ 52 - 1) = r at *
    rcases h1 with h1 | h1 <;> rw [h1, nanB_eq _ (by omega)] <;> simp <;> omega
  · have e : w.drew = { w with drawn := w.drawn + 1 } := rfl
    rw [e]
    simp only [binOp, Op.floatArith, h]
    simp [Question.forced]
set_option maxHeartbeats 400000 in
theorem ratio_some (a b : Int) (x y z : Nat) (hx : floatOfInt .f64 a = x) (hy : floatOfInt .f64 b = y) (h : Ieee.double.div x y = some z) (hz : nanB z = false) (w : World) :
    Calls Tryd.prog 23 #[.int .i64 a, .int .i64 b] w fun e w' => e = .returned (.float .f64 z) ∧ w = w' := by
  have hq := run_quo h
  have hc := canon_num z hz
  have HC := Lib.hid hc
  clear hc hz h
  go_enter Tryd.func23, Tryd.ntmps23
  go_wp2_with fail
  refine (HC.out _).mono ?_
  rintro e w' ⟨rfl, rfl⟩
  go_wp2
  go_ret
  exact ⟨rfl, rfl⟩
set_option maxHeartbeats 400000 in
theorem ratio_none (w : World) :
    Calls Tryd.prog 23 #[.int .i64 0, .int .i64 0] w fun e w' => e = .returned (.float .f64 9221120237041090560) ∧ Below w.heap.size w w' := by
  obtain ⟨v, hv, hq⟩ := run_quo_none w
  have hf := float_zero
  have HC := Lib.hid (canon_nan v hv)
  clear hv
  go_enter Tryd.func23, Tryd.ntmps23
  go_wp2_with fail
  refine (HC.out _).mono ?_
  rintro e w' ⟨rfl, rfl⟩
  go_wp2
  go_ret
  exact ⟨rfl, (Below.refl _ _).drew⟩
theorem wordS_num {s : Bool} {r : Nat} (h : r ≤ 9218868437227405312) : nanB (wordS s r) = false := by
  rw [nanB_eq _ (wordS_lt (by omega)), wordS_mod (by omega)]; simp; omega
theorem wordS_val {s : Bool} {r : Nat} (h : r < 9223372036854775808) : valW (wordS s r) = if s = true then -(magW r : Int) else (magW r : Int) := by
  unfold valW; rw [wordS_top h, wordS_mod h]
theorem wordS_pos {s : Bool} {r : Nat} (h0 : 1 ≤ r) (h : r ≤ 9218868437227405312) : (FloatKind.f64.format.order (wordS s r) 0 == some .gt) = !s := by
  rw [order_val _ _ (wordS_lt (by omega)) (by omega) (by rw [wordS_mod (by omega)]; exact h) (by omega), wordS_val (by omega)]
  have e : valW 0 = 0 := by decide
  have e0 : magW 0 = 0 := by decide
  have h1 := magW_mono (r := 0) (s := r) (by omega)
  rw [e, Bool.eq_iff_iff]
  simp only [beq_iff_eq, Option.some.injEq, cmp_gt_iff]
  cases s <;> simp <;> omega
theorem order_self {b : Nat} (h : nanB b = false) : (FloatKind.f64.format.order b b == some .eq) = true := by
  unfold nanB at h
  revert h
  cases hc : (FloatKind.f64.format.order b b == some .eq) <;> simp_all
set_option maxRecDepth 100000 in
set_option maxHeartbeats 400000 in
theorem ratio_law_zz (w : World) (hE : Env w) :
    Calls Tryd.prog 8 #[.int .i64 0, .int .i64 0] w fun e w' => e = .returned (.bool true) ∧ Below w.heap.size w w' := by
  have HE := Lib.hid hE
  have h14 := fb14
  clear hE
  go_enter Tryd.func8, Tryd.ntmps8
  go_wp2_with fail
  refine (awake_any _ HE.out).mono ?_
  rintro e w1 ⟨rfl, hb1⟩
  go_wp2_with fail
  refine (ratio_none _).mono ?_
  rintro e w2 ⟨rfl, hb2⟩
  go_wp2
  go_ret
  exact ⟨rfl, hb1.trans (hb2.mono hb1.size)⟩
set_option maxRecDepth 100000 in
set_option maxHeartbeats 400000 in
theorem ratio_law_az (a : Int) (ha0 : a ≠ 0) (ha : -9223372036854775808 ≤ a ∧ a ≤ 9223372036854775807) (w : World) (hE : Env w) :
    Calls Tryd.prog 8 #[.int .i64 a, .int .i64 0] w fun e w' => e = .returned (.bool true) ∧ Below w.heap.size w w' := by
  have HE := Lib.hid hE
  obtain ⟨r, r0, r1, er⟩ := float_int a ha0 ha.1 ha.2
  have HR := Lib.hid (ratio_some a 0 _ _ _ er float_zero (div_zero r0 r1) (wordS_num (by omega)))
  have hz : (a == 0) = false := by simpa using ha0
  have i1 : infB (wordS (decide (a < 0)) 9218868437227405312) = decide (0 < a) := by
    rw [infB_eq (wordS_lt (by omega)), Bool.eq_iff_iff]
    unfold wordS
    by_cases h : a < 0 <;> simp [h] <;> omega
  have i2 : infB (negB (wordS (decide (a < 0)) 9218868437227405312)) = decide (a < 0) := by
    rw [infB_eq (neg_lt (wordS_lt (by omega))), Bool.eq_iff_iff]
    unfold negB
    rw [wordS_top (by omega)]
    unfold wordS
    by_cases h : a < 0 <;> simp [h]
  have hw := wordS_lt (s := decide (a < 0)) (r := 9218868437227405312) (by omega)
  generalize wordS (decide (a < 0)) 9218868437227405312 = z at *
  have HI1 := Lib.hid (isinf_pos z)
  have HI2 := Lib.hid (isinf_neg z hw)
  rw [i1] at HI1
  rw [i2] at HI2
  clear i1 i2 hw er r0 r1 ha ha0 hE
  go_enter Tryd.func8, Tryd.ntmps8
  go_wp2_with fail
  refine (awake_any _ HE.out).mono ?_
  rintro e w1 ⟨rfl, hb1⟩
  go_wp2_with fail
  refine (HR.out _).mono ?_
  rintro e w' ⟨rfl, rfl⟩
  go_wp2_with fail
  refine (HI1.out _).mono ?_
  rintro e w' ⟨rfl, rfl⟩
  go_wp2_with fail
  refine (HI2.out _).mono ?_
  rintro e w' ⟨rfl, rfl⟩
  go_wp2
  go_ret
  exact ⟨rfl, hb1⟩
set_option maxRecDepth 100000 in
set_option maxHeartbeats 400000 in
theorem ratio_law_zb (b : Int) (hb0 : b ≠ 0) (hb : -9223372036854775808 ≤ b ∧ b ≤ 9223372036854775807) (w : World) (hE : Env w) :
    Calls Tryd.prog 8 #[.int .i64 0, .int .i64 b] w fun e w' => e = .returned (.bool true) ∧ Below w.heap.size w w' := by
  have HE := Lib.hid hE
  obtain ⟨r, r0, r1, er⟩ := float_int b hb0 hb.1 hb.2
  have HR := Lib.hid (ratio_some 0 b _ _ _ float_zero er (zero_div r0 r1) (wordS_num (by omega)))
  have hz : (b == 0) = false := by simpa using hb0
  have i1 : (FloatKind.f64.format.order (wordS (decide (b < 0)) 0) 0 == some .eq) = true := by
    cases decide (b < 0) <;> decide
  have HS := Lib.hid (signbit_any (wordS (decide (b < 0)) 0) (wordS_lt (by omega)))
  rw [wordS_top (by omega)] at HS
  generalize wordS (decide (b < 0)) 0 = z at *
  clear er r0 r1 hb hb0 hE
  go_enter Tryd.func8, Tryd.ntmps8
  go_wp2_with fail
  refine (awake_any _ HE.out).mono ?_
  rintro e w1 ⟨rfl, hb1⟩
  go_wp2_with fail
  refine (HR.out _).mono ?_
  rintro e w' ⟨rfl, rfl⟩
  go_wp2_with fail
  refine (HS.out _).mono ?_
  rintro e w' ⟨rfl, rfl⟩
  go_wp2
  go_ret
  exact ⟨rfl, hb1⟩
set_option maxRecDepth 100000 in
set_option maxHeartbeats 1600000 in
theorem ratio_law_ab (a b : Int) (x y z z2 : Nat) (ha0 : (a == 0) = false) (hb0 : (b == 0) = false) (hx : floatOfInt .f64 a = x) (hy : floatOfInt .f64 b = y) (G1 G2 : Bool) (hg1 : decide (0 < a) = G1) (hg2 : decide (0 < b) = G2)
    (hq : ∀ w, (binOp .quo 22 (.float .f64 x) (.float .f64 y)).run Tryd.prog w = .ok (.float .f64 z) w)
    (HR : Hid (∀ w, Calls Tryd.prog 23 #[.int .i64 a, .int .i64 b] w fun e w' => e = .returned (.float .f64 z) ∧ w = w'))
    (HR2 : Hid (∀ w, Calls Tryd.prog 23 #[.int .i64 b, .int .i64 a] w fun e w' => e = .returned (.float .f64 z2) ∧ w = w'))
    (hs : (FloatKind.f64.format.order z z == some .eq) = true) (hp : (FloatKind.f64.format.order z 0 == some .gt) = (G1 == G2)) (hp2 : (FloatKind.f64.format.order z2 0 == some .gt) = (G1 == G2))
    (N : Bool) (hN : (a != b) = N) (h1 : N = false → (FloatKind.f64.format.order z 4607182418800017408 == some .eq) = true) (w : World) (HE : Hid (Env w)) :
    Calls Tryd.prog 8 #[.int .i64 a, .int .i64 b] w fun e w' => e = .returned (.bool true) ∧ Below w.heap.size w w' := by
  cases N
  · have h2 := h1 rfl
    clear h1
    cases G1 <;> cases G2 <;> simp only [beq_self_eq_true, Bool.false_beq, Bool.not_true, Bool.true_beq] at hp hp2 <;>
    · go_enter Tryd.func8, Tryd.ntmps8
      go_wp2_with fail
      refine (awake_any _ HE.out).mono ?_
      rintro e w1 ⟨rfl, hb1⟩
      go_wp2_with fail
      refine (HR.out _).mono ?_
      rintro e w' ⟨rfl, rfl⟩
      go_wp2_with fail
      refine (HR2.out _).mono ?_
      rintro e w' ⟨rfl, rfl⟩
      go_wp2
      go_ret
      exact ⟨rfl, hb1⟩
  · clear h1
    cases G1 <;> cases G2 <;> simp only [beq_self_eq_true, Bool.false_beq, Bool.not_true, Bool.true_beq] at hp hp2 <;>
    · go_enter Tryd.func8, Tryd.ntmps8
      go_wp2_with fail
      refine (awake_any _ HE.out).mono ?_
      rintro e w1 ⟨rfl, hb1⟩
      go_wp2_with fail
      refine (HR.out _).mono ?_
      rintro e w' ⟨rfl, rfl⟩
      go_wp2_with fail
      refine (HR2.out _).mono ?_
      rintro e w' ⟨rfl, rfl⟩
      go_wp2
      go_ret
      exact ⟨rfl, hb1⟩
theorem ratio_law (a b : Int) (ha : -9223372036854775808 ≤ a ∧ a ≤ 9223372036854775807) (hb : -9223372036854775808 ≤ b ∧ b ≤ 9223372036854775807) (w : World) (hE : Env w) :
    Calls Tryd.prog 8 #[.int .i64 a, .int .i64 b] w fun e w' => e = .returned (.bool true) ∧ Below w.heap.size w w' := by
  by_cases ha0 : a = 0
  · by_cases hb0 : b = 0
    · subst ha0; subst hb0; exact ratio_law_zz w hE
    · subst ha0; exact ratio_law_zb b hb0 hb w hE
  · by_cases hb0 : b = 0
    · subst hb0; exact ratio_law_az a ha0 ha w hE
    · obtain ⟨r, r0, r1, er⟩ := float_int a ha0 ha.1 ha.2
      obtain ⟨q, q0, q1, eq⟩ := float_int b hb0 hb.1 hb.2
      obtain ⟨z, z0, z1, ez⟩ := div_some (s := decide (a < 0)) (t := decide (b < 0)) r0 r1 q0 q1
      obtain ⟨y, y0, y1, ey⟩ := div_some (s := decide (b < 0)) (t := decide (a < 0)) q0 q1 r0 r1
      have sg : (decide (0 < a) == decide (0 < b)) = !(decide (a < 0) ^^ decide (b < 0)) := by
        rw [Bool.eq_iff_iff]
        by_cases h1 : a < 0 <;> by_cases h2 : b < 0 <;> simp [h1, h2] <;> omega
      refine ratio_law_ab a b _ _ _ _ (by simpa using ha0) (by simpa using hb0) er eq _ _ rfl rfl (run_quo ez) (Lib.hid (ratio_some a b _ _ _ er eq ez (wordS_num (by omega)))) (Lib.hid (ratio_some b a _ _ _ eq er ey (wordS_num (by omega))))
        (order_self (wordS_num (by omega))) ?_ ?_ _ rfl ?_ w (Lib.hid hE)
      · rw [sg, wordS_pos z0 (by omega)]
      · rw [sg, wordS_pos y0 (by omega), Bool.xor_comm]
      · intro hN
        have hab : a = b := by simpa using hN
        subst hab
        have hrq : wordS (decide (a < 0)) r = wordS (decide (a < 0)) q := er.symm.trans eq
        rw [← hrq, div_self r0 r1] at ez
        have := Option.some.inj ez
        rw [← this]
        decide
end Go.Proofs.YtgppadnbfggkcaaDoor
