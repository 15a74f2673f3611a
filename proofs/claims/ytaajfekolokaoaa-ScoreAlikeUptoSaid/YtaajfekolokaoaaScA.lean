/- One number of ints divided by another, as words; the walks of stamp.Ratio and of the reference's canon. -/
import Derived.Test.YtaajfekolokaoaaStAll
import Derived.Laws.FloatArith
namespace Go.Proofs.Ytaajfekolokaoaa
open Go.RowKit

theorem cut_drop0 (n : Nat) (s : Bool) : Ieee.Toward.even.cut s n 0 = n := by
  unfold Ieee.Toward.cut
  simp
  omega
theorem cut_exact (n d : Nat) (s : Bool) (f : Nat) (hf : 0 < f) (hn : n = f * 2 ^ d) : Ieee.Toward.even.cut s n d = f := by
  have hn0 : n ≠ 0 := by
    have := Nat.mul_pos hf (Nat.two_pow_pos d); omega
  have hd : d ≤ n.log2 := by
    rw [Nat.le_log2 hn0, hn]; exact Nat.le_mul_of_pos_left _ hf
  unfold Ieee.Toward.cut
  simp only [Nat.shiftLeft_eq, Nat.one_mul]
  rw [show min d (n.log2 + 2) = d by omega, hn, Nat.mul_div_cancel _ (Nat.two_pow_pos d), Nat.mul_mod_left]
  have h2 := Nat.two_pow_pos d
  have e1 : decide (2 ^ d < 2 * 0) = false := by simp
  have e2 : (2 ^ d == 2 * 0) = false := by simp
  rw [e1, e2]; simp
theorem cut_bd (n d : Nat) (s : Bool) (hd : d ≤ n.log2) : n / 2 ^ d ≤ Ieee.Toward.even.cut s n d ∧ Ieee.Toward.even.cut s n d ≤ n / 2 ^ d + 1 := by
  unfold Ieee.Toward.cut
  simp only [Nat.shiftLeft_eq, Nat.one_mul]
  rw [show min d (n.log2 + 2) = d by omega]
  generalize (decide (2 ^ d < 2 * (n % 2 ^ d)) || (2 ^ d == 2 * (n % 2 ^ d)) && n / 2 ^ d % 2 == 1) = c
  cases c <;> simp
theorem double_nearest (s : Bool) (m : Nat) (hm : m ≠ 0) (place : Int) :
    Ieee.double.nearest s m place = Ieee.double.word s (min ((max (place + m.log2 - 52) (-1074) + 1074).toNat * 4503599627370496 + Ieee.Toward.even.cut s (m * 2 ^ (place - max (place + m.log2 - 52) (-1074)).toNat) (max (place + m.log2 - 52) (-1074) - place).toNat) 9218868437227405312) := by
  unfold Ieee.Format.nearest
  rw [if_neg hm]
  have e2 : Ieee.double.binade = 4503599627370496 := by decide
  have e3 : Ieee.double.infRung = 9218868437227405312 := by decide
  have e4 : Ieee.double.leastPlace = -1074 := by decide
  have e5 : (Ieee.double.fractionBits : Int) = 52 := by decide
  simp only [e2, e3, e4, e5, Nat.shiftLeft_eq, Int.sub_neg]
theorem word_false (r : Nat) : Ieee.double.word false r = r := rfl

/-- A whole number as a word: its last digit at the place 2 ^ 0. -/
def wordS (s : Bool) (r : Nat) : Nat := if s = true then 9223372036854775808 + r else r
theorem word_wordS (s : Bool) (r : Nat) : Ieee.double.word s r = wordS s r := by
  have e : Ieee.double.signWeight = 9223372036854775808 := by decide
  unfold Ieee.Format.word wordS; rw [e]
theorem wordS_top {s : Bool} {r : Nat} (h : r < 9223372036854775808) : topB (wordS s r) = s := by
  unfold wordS topB; cases s <;> simp <;> omega
theorem wordS_mod {s : Bool} {r : Nat} (h : r < 9223372036854775808) : wordS s r % 9223372036854775808 = r := by
  unfold wordS; cases s <;> simp <;> omega
theorem wordS_lt {s : Bool} {r : Nat} (h : r < 9223372036854775808) : wordS s r < 18446744073709551616 := by
  unfold wordS; cases s <;> simp <;> omega

theorem near_nat (s : Bool) (u : Nat) (h0 : 0 < u) (hu : u < 18446744073709551616) :
    ∃ r, 4607182418800017408 ≤ r ∧ r ≤ 4895412794951729152 ∧ Ieee.double.nearest s u 0 = wordS s r := by
  have h0' : u ≠ 0 := by omega
  rw [double_nearest _ _ h0', word_wordS]
  refine ⟨_, ?_, ?_, rfl⟩ <;>
  · have hL : u.log2 < 64 := by rw [Nat.log2_lt h0']; omega
    have hlo := Nat.log2_self_le h0'
    have hhi := @Nat.lt_log2_self u
    generalize u.log2 = L at *
    have hmax : max (0 + (L : Int) - 52) (-1074) = (L : Int) - 52 := by omega
    rw [hmax]
    have ek : ((L : Int) - 52 + 1074).toNat = L + 1022 := by omega
    rw [ek]
    have hk : 4503599627370496 ≤ Ieee.Toward.even.cut s (u * 2 ^ (0 - ((L : Int) - 52)).toNat) ((L : Int) - 52 - 0).toNat ∧ Ieee.Toward.even.cut s (u * 2 ^ (0 - ((L : Int) - 52)).toNat) ((L : Int) - 52 - 0).toNat ≤ 9007199254740992 := by
      by_cases h52 : L ≤ 52
      · rw [show (0 - ((L : Int) - 52)).toNat = 52 - L by omega, show ((L : Int) - 52 - 0).toNat = 0 by omega, cut_drop0]
        have p1 : 2 ^ L * 2 ^ (52 - L) = 4503599627370496 := by rw [← Nat.pow_add, show L + (52 - L) = 52 by omega]
        have p2 : 2 ^ (L + 1) * 2 ^ (52 - L) = 9007199254740992 := by rw [← Nat.pow_add, show L + 1 + (52 - L) = 53 by omega]
        have b1 := Nat.mul_le_mul_right (2 ^ (52 - L)) hlo
        have b2 := Nat.mul_le_mul_right (2 ^ (52 - L)) (Nat.le_of_lt hhi)
        omega
      · rw [show (0 - ((L : Int) - 52)).toNat = 0 by omega, show ((L : Int) - 52 - 0).toNat = L - 52 by omega, Nat.pow_zero, Nat.mul_one]
        have hb := cut_bd u (L - 52) s (by rw [Nat.le_log2 h0']; exact Nat.le_trans (Nat.pow_le_pow_right (by omega) (by omega)) hlo)
        have p1 : 2 ^ L = 4503599627370496 * 2 ^ (L - 52) := by rw [show (4503599627370496 : Nat) = 2 ^ 52 from rfl, ← Nat.pow_add, show 52 + (L - 52) = L by omega]
        have p2 : 2 ^ (L + 1) = 9007199254740992 * 2 ^ (L - 52) := by rw [show (9007199254740992 : Nat) = 2 ^ 53 from rfl, ← Nat.pow_add, show 53 + (L - 52) = L + 1 by omega]
        have b1 : 4503599627370496 ≤ u / 2 ^ (L - 52) := by rw [Nat.le_div_iff_mul_le (Nat.two_pow_pos _)]; omega
        have b2 : u / 2 ^ (L - 52) < 9007199254740992 := by rw [Nat.div_lt_iff_lt_mul (Nat.two_pow_pos _)]; omega
        omega
    generalize Ieee.Toward.even.cut s (u * 2 ^ (0 - ((L : Int) - 52)).toNat) ((L : Int) - 52 - 0).toNat = K at *
    omega
theorem float_int (a : Int) (h : a ≠ 0) (h0 : -9223372036854775808 ≤ a) (h1 : a ≤ 9223372036854775807) :
    ∃ r, 4607182418800017408 ≤ r ∧ r ≤ 4895412794951729152 ∧ floatOfInt .f64 a = wordS (decide (a < 0)) r := by
  obtain ⟨r, b0, b1, e⟩ := near_nat (decide (a < 0)) a.natAbs (by omega) (by omega)
  exact ⟨r, b0, b1, e⟩
theorem float_zero : floatOfInt .f64 0 = 0 := by decide

theorem read_word {s : Bool} {r : Nat} (h0 : 4607182418800017408 ≤ r) (h1 : r ≤ 4895412794951729152) :
    Ieee.double.read (wordS s r) = .number s (4503599627370496 + r % 4503599627370496) (-1074 + ((r / 4503599627370496 - 1 : Nat) : Int)) := by
  rw [read_eq _ (wordS_lt (by omega))]
  unfold readN
  rw [wordS_top (by omega), wordS_mod (by omega), if_neg (by omega), if_pos (by omega)]
theorem log_m {m : Nat} (h0 : 4503599627370496 ≤ m) (h1 : m < 9007199254740992) : m.log2 = 52 := by
  have a : m.log2 < 53 := by rw [Nat.log2_lt (by omega)]; omega
  have b : 52 ≤ m.log2 := by rw [Nat.le_log2 (by omega)]; omega
  omega
def quoN (m n : Nat) : Nat := 2 * (m * 18014398509481984 / n) + (m * 18014398509481984 % n != 0).toNat
theorem div_word {s t : Bool} {r q : Nat} (h0 : 4607182418800017408 ≤ r) (h1 : r ≤ 4895412794951729152) (g0 : 4607182418800017408 ≤ q) (g1 : q ≤ 4895412794951729152) :
    Ieee.double.div (wordS s r) (wordS t q) = some (Ieee.double.nearest (s ^^ t) (quoN (4503599627370496 + r % 4503599627370496) (4503599627370496 + q % 4503599627370496)) (((r / 4503599627370496 - 1 : Nat) : Int) - ((q / 4503599627370496 - 1 : Nat) : Int) - 55)) := by
  unfold Ieee.Format.div
  rw [read_word h0 h1, read_word g0 g1]
  have e : Ieee.double.fractionBits + 2 = 54 := by decide
  unfold Ieee.Datum.quotient
  rw [e]
  have lm := log_m (m := 4503599627370496 + r % 4503599627370496) (by omega) (by omega)
  have ln := log_m (m := 4503599627370496 + q % 4503599627370496) (by omega) (by omega)
  simp only [if_neg (show ¬ (4503599627370496 + q % 4503599627370496 = 0) by omega), lm, ln, Option.map_some, Nat.shiftLeft_eq]
  show some (Ieee.double.nearest _ _ _) = _
  unfold quoN
  congr 2
  omega
theorem quoN_bd {m n : Nat} (h0 : 4503599627370496 ≤ m) (h1 : m < 9007199254740992) (g0 : 4503599627370496 ≤ n) (g1 : n < 9007199254740992) :
    18014398509481984 ≤ quoN m n ∧ quoN m n < 72057594037927936 := by
  have b1 : 9007199254740992 ≤ m * 18014398509481984 / n := by
    rw [Nat.le_div_iff_mul_le (by omega)]
    have e : 9007199254740992 * 9007199254740992 = 4503599627370496 * 18014398509481984 := by decide
    have h2 := Nat.mul_le_mul_left 9007199254740992 (Nat.le_of_lt g1)
    have h3 := Nat.mul_le_mul_right 18014398509481984 h0
    rw [e] at h2
    exact Nat.le_trans h2 h3
  have b2 : m * 18014398509481984 / n < 36028797018963968 := by
    rw [Nat.div_lt_iff_lt_mul (by omega)]
    have e : 9007199254740992 * 18014398509481984 = 36028797018963968 * 4503599627370496 := by decide
    have h2 : m * 18014398509481984 < 9007199254740992 * 18014398509481984 := Nat.mul_lt_mul_of_pos_right h1 (by decide)
    have h3 := Nat.mul_le_mul_left 36028797018963968 g0
    rw [e] at h2
    exact Nat.lt_of_lt_of_le h2 h3
  unfold quoN
  have := Bool.toNat_le (m * 18014398509481984 % n != 0)
  omega
theorem near_q (s : Bool) (Q : Nat) (d : Int) (h0 : 18014398509481984 ≤ Q) (h1 : Q < 72057594037927936) (d0 : -64 ≤ d) (d1 : d ≤ 64) :
    ∃ r, 1 ≤ r ∧ r < 9218868437227405312 ∧ Ieee.double.nearest s Q (d - 55) = wordS s r := by
  rw [double_nearest _ _ (by omega), word_wordS]
  refine ⟨_, ?_, ?_, rfl⟩ <;>
  · have hL : Q.log2 < 56 := by rw [Nat.log2_lt (by omega)]; omega
    have hL2 : 54 ≤ Q.log2 := by rw [Nat.le_log2 (by omega)]; omega
    have hb := cut_bd Q (Q.log2 - 52) s (by omega)
    have hlo := Nat.log2_self_le (show Q ≠ 0 by omega)
    have hhi := @Nat.lt_log2_self Q
    generalize Q.log2 = L at *
    have hmax : max (d - 55 + (L : Int) - 52) (-1074) = d - 55 + (L : Int) - 52 := by omega
    rw [hmax, show (d - 55 - (d - 55 + (L : Int) - 52)).toNat = 0 by omega, show (d - 55 + (L : Int) - 52 - (d - 55)).toNat = L - 52 by omega, Nat.pow_zero, Nat.mul_one]
    have p2 : 2 ^ (L + 1) = 9007199254740992 * 2 ^ (L - 52) := by rw [show (9007199254740992 : Nat) = 2 ^ 53 from rfl, ← Nat.pow_add, show 53 + (L - 52) = L + 1 by omega]
    have b2 : Q / 2 ^ (L - 52) < 9007199254740992 := by rw [Nat.div_lt_iff_lt_mul (Nat.two_pow_pos _)]; omega
    generalize Ieee.Toward.even.cut s Q (L - 52) = K at *
    have hk : K ≤ 9007199254740992 := by omega
    have e1 : 957 ≤ (d - 55 + (L : Int) - 52 + 1074).toNat := by omega
    have e2 : (d - 55 + (L : Int) - 52 + 1074).toNat ≤ 1086 := by omega
    generalize (d - 55 + (L : Int) - 52 + 1074).toNat = E at *
    omega
theorem div_some {s t : Bool} {r q : Nat} (h0 : 4607182418800017408 ≤ r) (h1 : r ≤ 4895412794951729152) (g0 : 4607182418800017408 ≤ q) (g1 : q ≤ 4895412794951729152) :
    ∃ z, 1 ≤ z ∧ z < 9218868437227405312 ∧ Ieee.double.div (wordS s r) (wordS t q) = some (wordS (s ^^ t) z) := by
  rw [div_word h0 h1 g0 g1]
  obtain ⟨b0, b1⟩ := quoN_bd (m := 4503599627370496 + r % 4503599627370496) (n := 4503599627370496 + q % 4503599627370496) (by omega) (by omega) (by omega) (by omega)
  obtain ⟨z, z0, z1, e⟩ := near_q (s ^^ t) _ (((r / 4503599627370496 - 1 : Nat) : Int) - ((q / 4503599627370496 - 1 : Nat) : Int)) b0 b1 (by omega) (by omega)
  exact ⟨z, z0, z1, by rw [e]⟩
theorem div_self {s : Bool} {r : Nat} (h0 : 4607182418800017408 ≤ r) (h1 : r ≤ 4895412794951729152) :
    Ieee.double.div (wordS s r) (wordS s r) = some 4607182418800017408 := by
  rw [div_word h0 h1 h0 h1]
  have e : quoN (4503599627370496 + r % 4503599627370496) (4503599627370496 + r % 4503599627370496) = 36028797018963968 := by
    unfold quoN
    rw [Nat.mul_div_cancel_left _ (by omega), Nat.mul_mod_right]; rfl
  rw [e, Int.sub_self, Bool.xor_self]
  decide +kernel
theorem div_zero {s : Bool} {r : Nat} (h0 : 4607182418800017408 ≤ r) (h1 : r ≤ 4895412794951729152) : Ieee.double.div (wordS s r) 0 = some (wordS s 9218868437227405312) := by
  unfold Ieee.Format.div
  have e : Ieee.double.read 0 = .number false 0 (-1074) := by decide
  rw [read_word h0 h1, e]
  unfold Ieee.Datum.quotient
  simp only [if_true, if_neg (show ¬ (4503599627370496 + r % 4503599627370496 = 0) by omega), Option.map_some, Bool.xor_false]
  show some (Ieee.double.word s Ieee.double.infRung) = _
  rw [word_wordS]; rfl
theorem zero_div {s : Bool} {r : Nat} (h0 : 4607182418800017408 ≤ r) (h1 : r ≤ 4895412794951729152) : Ieee.double.div 0 (wordS s r) = some (wordS s 0) := by
  unfold Ieee.Format.div
  have e : Ieee.double.read 0 = .number false 0 (-1074) := by decide
  rw [read_word h0 h1, e]
  unfold Ieee.Datum.quotient
  simp only [if_neg (show ¬ (4503599627370496 + r % 4503599627370496 = 0) by omega), Option.map_some, Nat.zero_shiftLeft, Nat.zero_div, Nat.zero_mod, Bool.false_xor]
  show some (Ieee.double.nearest s 0 _) = _
  unfold Ieee.Format.nearest
  rw [if_pos rfl, word_wordS]
theorem zero_zero : Ieee.double.div 0 0 = none := by decide
theorem run_quo {x y z : Nat} (h : Ieee.double.div x y = some z) (w : World) : (binOp .quo 24 (.float .f64 x) (.float .f64 y)).run Try.prog w = .ok (.float .f64 z) w :=
  run_float_arith w .quo 24 .f64 x y z h
theorem run_quo_none (w : World) : ∃ v, nanB v = true ∧ (binOp .quo 24 (.float .f64 0) (.float .f64 0)).run Try.prog w = .ok (.float .f64 v) w.drew := by
  have h : FloatKind.f64.format.div 0 0 = none := zero_zero
  refine ⟨(Question.nanBits .f64 0 0).cut (w.tape w.drawn (.nanBits .f64 0 0)), ?_, ?_⟩
  · show nanB ((w.tape w.drawn (.nanBits .f64 0 0) % 2) * 2 ^ 63 + 0x7ff0000000000000 + 1 + (w.tape w.drawn (.nanBits .f64 0 0) / 2) % (2 ^ 52 - 1)) = true
    generalize w.tape w.drawn (.nanBits .f64 0 0) = t
    have h1 : t % 2 = 0 ∨ t % 2 = 1 := by omega
    have h2 : t / 2 % (2 ^ 52 - 1) < 4503599627370495 := Nat.mod_lt _ (by decide)
    generalize t / 2 % (2 ^ 52 - 1) = r at *
    rcases h1 with h1 | h1 <;> rw [h1, nanB_eq _ (by omega)] <;> simp <;> omega
  · have e : w.drew = { w with drawn := w.drawn + 1 } := rfl
    rw [e]
    simp only [binOp, Op.floatArith, h]
    simp [Question.forced]
set_option maxHeartbeats 400000 in
theorem ratio_some (a b : Int) (x y z : Nat) (hx : floatOfInt .f64 a = x) (hy : floatOfInt .f64 b = y) (h : Ieee.double.div x y = some z) (hz : nanB z = false) (w : World) :
    Calls Try.prog 22 #[.int .i64 a, .int .i64 b] w fun e w' => e = .returned (.float .f64 z) ∧ w = w' := by
  have hq := run_quo h
  have hc := canon_num z hz
  have HC := Lib.hid hc
  clear hc hz h
  go_enter Try.func22, Try.ntmps22
  go_wp2_with fail
  refine (HC.out _).mono ?_
  rintro e w' ⟨rfl, rfl⟩
  go_wp2
  go_ret
  exact ⟨rfl, rfl⟩
set_option maxHeartbeats 400000 in
theorem ratio_none (w : World) :
    Calls Try.prog 22 #[.int .i64 0, .int .i64 0] w fun e w' => e = .returned (.float .f64 9221120237041090560) ∧ Below w.heap.size w w' := by
  obtain ⟨v, hv, hq⟩ := run_quo_none w
  have hf := float_zero
  have HC := Lib.hid (canon_nan v hv)
  clear hv
  go_enter Try.func22, Try.ntmps22
  go_wp2_with fail
  refine (HC.out _).mono ?_
  rintro e w' ⟨rfl, rfl⟩
  go_wp2
  go_ret
  exact ⟨rfl, (Below.refl _ _).drew⟩
theorem wordS_num {s : Bool} {r : Nat} (h : r ≤ 9218868437227405312) : nanB (wordS s r) = false := by
  rw [nanB_eq _ (wordS_lt (by omega)), wordS_mod (by omega)]; simp; omega
end Go.Proofs.Ytaajfekolokaoaa
