/- Contracts: math.Ldexp at a number of at least one. -/
import Derived.Test.YtgppadnbfggkcaaDoorC
import Derived.Laws.FloatArith
namespace Go.Proofs.YtgppadnbfggkcaaDoor
open Go.RowKit Go.Shelf Go.Sort Go.Lib

def mulB (a b : Nat) : Nat := (Ieee.double.mul a b).getD 0
def qB (x : Nat) (p : Int) : Int := wrap64 (wrap64 p + wrap64 ((x : Int) / 4503599627370496 - 1023))
def wordB (x : Nat) (e : Int) : Nat := x % 4503599627370496 + e.toNat * 4503599627370496
def ldexpB (x : Nat) (p : Int) : Nat :=
  if x = 0 then 0 else if qB x p < -1075 then 0 else if 1023 < qB x p then 9218868437227405312 else
  if qB x p < -1022 then mulB 4368491638549381120 (wordB x (qB x p + 53 + 1023)) else mulB 4607182418800017408 (wordB x (qB x p + 1023))

theorem mul_some {a b : Nat} (ha : a % 9223372036854775808 < 9218868437227405312) (ha2 : a < 18446744073709551616) (hb : b % 9223372036854775808 < 9218868437227405312) (hb2 : b < 18446744073709551616) :
    floatBits .mul .f64 a b = some (mulB a b) := by
  obtain ⟨m, p, e, _⟩ := readN_fin a ha
  obtain ⟨n, q, e', _⟩ := readN_fin b hb
  show Ieee.double.mul a b = some ((Ieee.double.mul a b).getD 0)
  unfold Ieee.Format.mul
  rw [read_eq a ha2, read_eq b hb2, e, e']
  rfl
set_option maxHeartbeats 400000 in
theorem ldexp_zero (p : Int) (w : World) :
    Calls Tryd.prog 57 #[.float .f64 0, .int .i64 p] w fun e w' => e = .returned (.float .f64 (ldexpB 0 p)) ∧ w = w' := by
  have hz := zero_cmp (b := 0) (by omega)
  simp at hz
  go_enter Tryd.func57, Tryd.ntmps57
  go_wp2
  go_ret
  exact ⟨rfl, rfl⟩
theorem one_less (x : Nat) (h0 : 4607182418800017408 ≤ x) (h1 : x < 9218868437227405312) : (FloatKind.f64.format.order (x % 9223372036854775808) 4503599627370496 == some .lt) = false := by
  rw [Nat.mod_eq_of_lt (by omega), order_val _ _ (by omega) (by omega) (by omega) (by omega)]
  rw [beq_eq_false_iff_ne]
  intro h
  rw [Option.some.injEq, cmp_lt_iff] at h
  have e1 : ∀ y, y < 9223372036854775808 → valW y = (magW y : Int) := fun y hy => by unfold valW topB; rw [if_neg (by simp; omega), Nat.mod_eq_of_lt hy]
  rw [e1 x (by omega), e1 _ (by omega)] at h
  have h2 : magW x < magW 4503599627370496 := by omega
  rw [magW_lt_iff] at h2
  omega
set_option maxHeartbeats 400000 in
theorem normalize_one (x : Nat) (h0 : 4607182418800017408 ≤ x) (h1 : x < 9218868437227405312) (w : World) :
    Calls Tryd.prog 71 #[.float .f64 x] w fun e w' => e = .returned (.tuple #[.float .f64 x, .int .i64 0]) ∧ w = w' := by
  have hl := one_less x h0 h1
  have Ha := Lib.hid (abs_any x (by omega) w)
  clear h0 h1
  go_enter Tryd.func71, Tryd.ntmps71
  go_wp2_with fail
  refine Ha.out.mono ?_
  rintro e w' ⟨rfl, rfl⟩
  go_wp2
  go_ret2
  exact ⟨rfl, rfl⟩
theorem and2047 (n : Nat) (hn : n < 2048) : bits .and .i64 (n : Int) 2047 = (n : Int) := by
  have : ∀ n : Fin 2048, bits .and .i64 ((n.val : Nat) : Int) 2047 = ((n.val : Nat) : Int) := by decide +kernel
  exact this ⟨n, hn⟩
theorem exp_of {x : Nat} (h1 : x < 9218868437227405312) : bits BinOp.and IntKind.i64 (wrap64 ((x : Int) / 4503599627370496)) 2047 = ((x / 4503599627370496 : Nat) : Int) := by
  rw [shr52 h1, and2047 _ (by omega)]
set_option maxHeartbeats 400000 in
theorem copysign_zero (x : Nat) (hx : x < 9223372036854775808) (w : World) :
    Calls Tryd.prog 72 #[.float .f64 0, .float .f64 x] w fun e w' => e = .returned (.float .f64 0) ∧ w = w' := by
  have h14 := fb14
  have h27 := fb27
  have e := u64_and_nat x 9223372036854775808 (by omega) (by omega)
  rw [show (9223372036854775808 : Nat) = 2 ^ 63 from rfl, nat_bit, Nat.div_eq_of_lt hx, Nat.zero_mod, Nat.zero_mul] at e
  have e2 : bits .and .u64 (x : Int) 9223372036854775808 = 0 := e
  have e3 : bits .andNot .u64 0 9223372036854775808 = 0 := by decide
  have e4 : bits .or .u64 0 0 = 0 := by decide
  have e5 : bits .or .u64 (bits .andNot .u64 0 9223372036854775808) (bits .and .u64 (x : Int) 9223372036854775808) = 0 := by rw [e2, e3, e4]
  have E5 := Lib.hid e5
  clear e e2 e3 e4 e5 hx
  go_enter Tryd.func72, Tryd.ntmps72
  go_wp2
  go_ret
  refine ⟨?_, rfl⟩
  have := E5.out
  show Ending.returned (Value.float FloatKind.f64 (bits .or .u64 (bits .andNot .u64 0 9223372036854775808) (bits .and .u64 (x : Int) 9223372036854775808)).toNat) = _
  rw [this]; rfl
set_option maxHeartbeats 400000 in
theorem inf_one (w : World) : Calls Tryd.prog 34 #[.int .i64 1] w fun e w' => e = .returned (.float .f64 9218868437227405312) ∧ w = w' := by
  have h27 := fb27
  go_enter Tryd.func34, Tryd.ntmps34
  go_wp2
  go_ret
  exact ⟨rfl, rfl⟩
theorem not_less (x : Nat) (h1 : x < 9218868437227405312) : (FloatKind.f64.format.order x 0 == some .lt) = false := by
  rw [order_val _ _ (by omega) (by omega) (by omega) (by omega), beq_eq_false_iff_ne]
  intro h
  rw [Option.some.injEq, cmp_lt_iff] at h
  have e1 : ∀ y, y < 9223372036854775808 → valW y = (magW y : Int) := fun y hy => by unfold valW topB; rw [if_neg (by simp; omega), Nat.mod_eq_of_lt hy]
  rw [e1 x (by omega), e1 _ (by omega)] at h
  have h2 : magW x < magW 0 := by omega
  rw [magW_lt_iff] at h2
  omega
theorem word_eq (x : Nat) (hx : x < 9223372036854775808) (e : Int) (h0 : 0 ≤ e) (h1 : e ≤ 2046) :
    bits BinOp.or IntKind.u64 (bits BinOp.andNot IntKind.u64 (x : Int) 9218868437227405312) (e * 4503599627370496) = ((wordB x e : Nat) : Int) := by
  have e1 := u64_andNot_nat x 9218868437227405312 (by omega) (by omega)
  rw [show (18446744073709551615 - 9218868437227405312 : Nat) = 2 ^ 63 ||| (2 ^ 52 - 1) from by decide, Nat.and_or_distrib_left, nat_bit, Nat.div_eq_of_lt hx, Nat.zero_mod, Nat.zero_mul, Nat.zero_or, Nat.and_two_pow_sub_one_eq_mod] at e1
  have e2 : bits BinOp.andNot IntKind.u64 (x : Int) 9218868437227405312 = ((x % 2 ^ 52 : Nat) : Int) := e1
  obtain ⟨k, rfl⟩ := Int.eq_ofNat_of_zero_le h0
  have e3 := u64_or_nat (x % 2 ^ 52) (k * 4503599627370496) (by omega) (by omega)
  rw [Nat.or_comm, nat_join 52 _ _ (by omega) (Nat.mod_lt _ (by decide))] at e3
  rw [e2, show ((k : Int) * 4503599627370496) = ((k * 4503599627370496 : Nat) : Int) by simp, e3]
  unfold wordB
  simp; omega
theorem word_fin (x : Nat) (e : Int) (h0 : 0 ≤ e) (h1 : e ≤ 2046) : wordB x e < 9218868437227405312 := by
  unfold wordB; omega
theorem ret_f {a b : Nat} (h : a = b) : Ending.returned (.float .f64 a) = .returned (.float .f64 b) := by rw [h]
theorem run_mulB (a b : Nat) (ha : a < 9218868437227405312) (hb : b < 9218868437227405312) (w : World) : (binOp .mul 22 (.float .f64 a) (.float .f64 b)).run Tryd.prog w = .ok (.float .f64 (mulB a b)) w :=
  run_float_arith w .mul 22 .f64 a b _ (mul_some (by omega) (by omega) (by omega) (by omega))
set_option maxRecDepth 100000 in
set_option maxHeartbeats 800000 in
theorem ldexp_some (x : Nat) (h0 : 4607182418800017408 ≤ x) (h1 : x < 9218868437227405312) (p : Int) (w : World) :
    Calls Tryd.prog 57 #[.float .f64 x, .int .i64 p] w fun e w' => e = .returned (.float .f64 (ldexpB x p)) ∧ w = w' := by
  have hz := zero_cmp (b := x) (by omega)
  rw [show decide (x = 0) = false by simp; omega] at hz
  have hi : infB (x % 9223372036854775808) = false := by rw [infB_eq (by omega)]; simp; omega
  have hn : nanB x = false := by rw [nanB_eq x (by omega)]; simp; omega
  have Hi := Lib.hid (isinf_any x (by omega) w)
  have Hn := Lib.hid (normalize_one x h0 h1 w)
  have H0 := Lib.hid h0
  have H1 := Lib.hid h1
  have he := exp_of h1
  have hnl := not_less x h1
  have h14 := fb14
  have h27 := fb27
  clear h0 h1
  go_enter Tryd.func57, Tryd.ntmps57
  go_wp2_with fail
  refine Hi.out.mono ?_
  rintro e w' ⟨rfl, rfl⟩
  rw [hi]
  go_wp2_with fail
  refine (isnan_any _ _).mono ?_
  rintro e w' ⟨rfl, rfl⟩
  rw [hn]
  go_wp2_with fail
  refine Hn.out.mono ?_
  rintro e w' ⟨rfl, rfl⟩
  go_wp2_with fail
  · have hq : qB x p < -1075 := by assumption
    refine (copysign_zero x (by have := H1.out; omega) _).mono ?_
    rintro e w' ⟨rfl, rfl⟩
    go_wp2
    go_ret
    refine ⟨ret_f ?_, rfl⟩
    unfold ldexpB; rw [if_neg (by have := H0.out; omega), if_pos hq]
  · have hq1 : -1075 ≤ qB x p := by assumption
    have hq : 1023 < qB x p := by assumption
    refine (inf_one _).mono ?_
    rintro e w' ⟨rfl, rfl⟩
    go_wp2
    go_ret
    refine ⟨ret_f ?_, rfl⟩
    unfold ldexpB; rw [if_neg (by have := H0.out; omega), if_neg (by omega), if_pos hq]
  · have hq1 : -1075 ≤ qB x p := by assumption
    have hq2 : qB x p ≤ 1023 := by assumption
    have hq : qB x p < -1022 := by assumption
    have E := word_eq x (by have := H1.out; omega) (qB x p + 53 + 1023) (by omega) (by omega)
    have E2 : bits BinOp.or IntKind.u64 (bits BinOp.andNot IntKind.u64 (x : Int) 9218868437227405312) ((wrap64 (wrap64 p + wrap64 ((x : Int) / 4503599627370496 - 1023)) + 53 + 1023) * 4503599627370496) = ((wordB x (qB x p + 53 + 1023) : Nat) : Int) := E
    rw [E2]
    have hm := run_mulB 4368491638549381120 _ (by omega) (word_fin x (qB x p + 53 + 1023) (by omega) (by omega)) w
    have e : ldexpB x p = mulB 4368491638549381120 (wordB x (qB x p + 53 + 1023)) := by
      unfold ldexpB; rw [if_neg (by have := H0.out; omega), if_neg (by omega), if_neg (by omega), if_pos hq]
    have E' := Lib.hid e
    clear e E E2 hq1 hq2 hq
    generalize wordB x (qB x p + 53 + 1023) = W at *
    rw [Int.toNat_natCast, hm]
    go_wp2
    go_ret
    exact ⟨ret_f E'.out.symm, rfl⟩
  · have hq1 : -1075 ≤ qB x p := by assumption
    have hq2 : qB x p ≤ 1023 := by assumption
    have hq : -1022 ≤ qB x p := by assumption
    have E := word_eq x (by have := H1.out; omega) (qB x p + 1023) (by omega) (by omega)
    have E2 : bits BinOp.or IntKind.u64 (bits BinOp.andNot IntKind.u64 (x : Int) 9218868437227405312) ((wrap64 (wrap64 p + wrap64 ((x : Int) / 4503599627370496 - 1023)) + 1023) * 4503599627370496) = ((wordB x (qB x p + 1023) : Nat) : Int) := E
    rw [E2]
    have hm := run_mulB 4607182418800017408 _ (by omega) (word_fin x (qB x p + 1023) (by omega) (by omega)) w
    have e : ldexpB x p = mulB 4607182418800017408 (wordB x (qB x p + 1023)) := by
      unfold ldexpB; rw [if_neg (by have := H0.out; omega), if_neg (by omega), if_neg (by omega), if_neg (by omega)]
    have E' := Lib.hid e
    clear e E E2 hq1 hq2 hq
    generalize wordB x (qB x p + 1023) = W at *
    rw [Int.toNat_natCast, hm]
    go_wp2
    go_ret
    exact ⟨ret_f E'.out.symm, rfl⟩
theorem ldexp_any (x : Nat) (h0 : x = 0 ∨ 4607182418800017408 ≤ x) (h1 : x < 9218868437227405312) (p : Int) (w : World) :
    Calls Tryd.prog 57 #[.float .f64 x, .int .i64 p] w fun e w' => e = .returned (.float .f64 (ldexpB x p)) ∧ w = w' := by
  rcases h0 with rfl | h0
  · exact ldexp_zero p w
  · exact ldexp_some x h0 h1 p w
set_option maxHeartbeats 400000 in
theorem ldexp_pub (x : Nat) (h0 : x = 0 ∨ 4607182418800017408 ≤ x) (h1 : x < 9218868437227405312) (p : Int) (w : World) :
    Calls Tryd.prog 47 #[.float .f64 x, .int .i64 p] w fun e w' => e = .returned (.float .f64 (ldexpB x p)) ∧ w = w' := by
  have H := Lib.hid (ldexp_any x h0 h1 p w)
  clear h0 h1
  go_enter Tryd.func47, Tryd.ntmps47
  go_wp2_with fail
  refine H.out.mono ?_
  rintro e w' ⟨rfl, rfl⟩
  go_wp2
  go_ret
  exact ⟨rfl, rfl⟩
end Go.Proofs.YtgppadnbfggkcaaDoor
