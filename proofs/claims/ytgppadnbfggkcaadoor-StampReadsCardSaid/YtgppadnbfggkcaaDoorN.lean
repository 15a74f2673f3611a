/- Plain facts: the nearest word of a number; integers as words. -/
import Derived.Test.YtgppadnbfggkcaaDoorM
import Derived.Laws.FloatArith
namespace Go.Proofs.YtgppadnbfggkcaaDoor

theorem cut_drop0 (n : Nat) (s : Bool) : Ieee.Toward.even.cut s n 0 = n := by
  unfold Ieee.Toward.cut
  simp
  omega
theorem cut_exact (n d : Nat) (s : Bool) (f : Nat) (hf : 0 < f) (hn : n = f * 2 ^ d) : Ieee.Toward.even.cut s n d = f := by
  have hn0 : n ≠ 0 := by
    have := Nat.mul_pos hf (Nat.two_pow_pos d); omega
  have hd : d ≤ n.log2 := by
    rw [Nat.le_log2 hn0, hn]; exact Nat.le_mul_of_pos_left _ hf
  unfold Ieee.Toward.cut
  simp only [Nat.shiftLeft_eq, Nat.one_mul]
  rw [show min d (n.log2 + 2) = d by omega, hn, Nat.mul_div_cancel _ (Nat.two_pow_pos d), Nat.mul_mod_left]
  have h2 := Nat.two_pow_pos d
  have e1 : decide (2 ^ d < 2 * 0) = false := by simp
  have e2 : (2 ^ d == 2 * 0) = false := by simp
  rw [e1, e2]; simp
theorem cut_bd (n d : Nat) (s : Bool) (hd : d ≤ n.log2) : n / 2 ^ d ≤ Ieee.Toward.even.cut s n d ∧ Ieee.Toward.even.cut s n d ≤ n / 2 ^ d + 1 := by
  unfold Ieee.Toward.cut
  simp only [Nat.shiftLeft_eq, Nat.one_mul]
  rw [show min d (n.log2 + 2) = d by omega]
  generalize (decide (2 ^ d < 2 * (n % 2 ^ d)) || (2 ^ d == 2 * (n % 2 ^ d)) && n / 2 ^ d % 2 == 1) = c
  cases c <;> simp
theorem double_nearest (s : Bool) (m : Nat) (hm : m ≠ 0) (place : Int) :
    Ieee.double.nearest s m place = Ieee.double.word s (min ((max (place + m.log2 - 52) (-1074) + 1074).toNat * 4503599627370496 + Ieee.Toward.even.cut s (m * 2 ^ (place - max (place + m.log2 - 52) (-1074)).toNat) (max (place + m.log2 - 52) (-1074) - place).toNat) 9218868437227405312) := by
  unfold Ieee.Format.nearest
  rw [if_neg hm]
  have e2 : Ieee.double.binade = 4503599627370496 := by decide
  have e3 : Ieee.double.infRung = 9218868437227405312 := by decide
  have e4 : Ieee.double.leastPlace = -1074 := by decide
  have e5 : (Ieee.double.fractionBits : Int) = 52 := by decide
  simp only [e2, e3, e4, e5, Nat.shiftLeft_eq, Int.sub_neg]
theorem word_false (r : Nat) : Ieee.double.word false r = r := rfl

/-- A whole number as a word: its last digit at the place 2 ^ 0. -/
theorem float_u64 (u : Nat) (hu : u < 18446744073709551616) : floatOfInt .f64 (u : Int) < 9218868437227405312 ∧ (floatOfInt .f64 (u : Int) = 0 ∨ 4607182418800017408 ≤ floatOfInt .f64 (u : Int)) := by
  have e : floatOfInt .f64 (u : Int) = Ieee.double.nearest false u 0 := by
    show Ieee.double.write (.number (decide ((u : Int) < 0)) (u : Int).natAbs 0) = _
    rw [show decide ((u : Int) < 0) = false by simp, Int.natAbs_natCast]; rfl
  rw [e]
  by_cases h0 : u = 0
  · subst h0; exact ⟨by decide, Or.inl (by decide)⟩
  · rw [double_nearest _ _ h0, word_false]
    have hL : u.log2 < 64 := by rw [Nat.log2_lt h0]; omega
    have hlo := Nat.log2_self_le h0
    have hhi := @Nat.lt_log2_self u
    generalize u.log2 = L at *
    have hmax : max (0 + (L : Int) - 52) (-1074) = (L : Int) - 52 := by omega
    rw [hmax]
    have ek : ((L : Int) - 52 + 1074).toNat = L + 1022 := by omega
    rw [ek]
    suffices hk : 4503599627370496 ≤ Ieee.Toward.even.cut false (u * 2 ^ (0 - ((L : Int) - 52)).toNat) ((L : Int) - 52 - 0).toNat ∧ Ieee.Toward.even.cut false (u * 2 ^ (0 - ((L : Int) - 52)).toNat) ((L : Int) - 52 - 0).toNat ≤ 9007199254740992 by
      generalize Ieee.Toward.even.cut false (u * 2 ^ (0 - ((L : Int) - 52)).toNat) ((L : Int) - 52 - 0).toNat = K at *
      omega
    by_cases h52 : L ≤ 52
    · rw [show (0 - ((L : Int) - 52)).toNat = 52 - L by omega, show ((L : Int) - 52 - 0).toNat = 0 by omega, cut_drop0]
      have p1 : 2 ^ L * 2 ^ (52 - L) = 4503599627370496 := by rw [← Nat.pow_add, show L + (52 - L) = 52 by omega]
      have p2 : 2 ^ (L + 1) * 2 ^ (52 - L) = 9007199254740992 := by rw [← Nat.pow_add, show L + 1 + (52 - L) = 53 by omega]
      have b1 := Nat.mul_le_mul_right (2 ^ (52 - L)) hlo
      have b2 := Nat.mul_le_mul_right (2 ^ (52 - L)) (Nat.le_of_lt hhi)
      omega
    · rw [show (0 - ((L : Int) - 52)).toNat = 0 by omega, show ((L : Int) - 52 - 0).toNat = L - 52 by omega, Nat.pow_zero, Nat.mul_one]
      have hb := cut_bd u (L - 52) false (by rw [Nat.le_log2 h0]; exact Nat.le_trans (Nat.pow_le_pow_right (by omega) (by omega)) hlo)
      have p1 : 2 ^ L = 4503599627370496 * 2 ^ (L - 52) := by rw [show (4503599627370496 : Nat) = 2 ^ 52 from rfl, ← Nat.pow_add, show 52 + (L - 52) = L by omega]
      have p2 : 2 ^ (L + 1) = 9007199254740992 * 2 ^ (L - 52) := by rw [show (9007199254740992 : Nat) = 2 ^ 53 from rfl, ← Nat.pow_add, show 53 + (L - 52) = L + 1 by omega]
      have b1 : 4503599627370496 ≤ u / 2 ^ (L - 52) := by rw [Nat.le_div_iff_mul_le (Nat.two_pow_pos _)]; omega
      have b2 : u / 2 ^ (L - 52) < 9007199254740992 := by rw [Nat.div_lt_iff_lt_mul (Nat.two_pow_pos _)]; omega
      omega
theorem nearest_le (m : Nat) (p : Int) : Ieee.double.nearest false m p ≤ 9218868437227405312 := by
  by_cases h : m = 0
  · subst h; show Ieee.double.nearest false 0 p ≤ _
    unfold Ieee.Format.nearest; rw [if_pos rfl]; exact Nat.zero_le _
  · rw [double_nearest _ _ h, word_false]; exact Nat.min_le_right _ _
theorem mul_le (a b : Nat) (ha : a < 9218868437227405312) (hb : b < 9218868437227405312) : (Ieee.double.mul a b).getD 0 ≤ 9218868437227405312 := by
  obtain ⟨m, p, e, _⟩ := readN_fin a (by omega)
  obtain ⟨n, q, e', _⟩ := readN_fin b (by omega)
  have ta : topB a = false := by unfold topB; simp; omega
  have tb : topB b = false := by unfold topB; simp; omega
  unfold Ieee.Format.mul
  rw [read_eq a (by omega), read_eq b (by omega), e, e', ta, tb]
  exact nearest_le _ _
end Go.Proofs.YtgppadnbfggkcaaDoor
