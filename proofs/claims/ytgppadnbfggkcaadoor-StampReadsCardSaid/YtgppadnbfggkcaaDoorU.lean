/- Plain facts: a number written is read again. -/
import Derived.Test.YtgppadnbfggkcaaDoorG
import Derived.Test.YtgppadnbfggkcaaDoorS
import Derived.Lib.AtoiAllCases
namespace Go.Proofs.YtgppadnbfggkcaaDoor
open Go.Lib Go.RowKit

theorem pu_append : ∀ (l r : List UInt8) (acc m : Nat), parseUint10 acc l = .ok m → parseUint10 acc (l ++ r) = parseUint10 m r
  | [], r, acc, m, h => by simp only [parseUint10] at h; injection h with h; subst h; rfl
  | c :: l, r, acc, m, h => by
    simp only [parseUint10, List.cons_append] at h ⊢
    split at h
    · rename_i hc
      rw [if_pos hc]
      split at h
      · cases h
      · rename_i h1
        rw [if_neg h1]
        split at h
        · cases h
        · rename_i h2
          rw [if_neg h2]
          exact pu_append l r _ m h
    · cases h
theorem pu_one (acc d : Nat) (hd : d < 10) (h : acc * 10 + d < 18446744073709551616) : parseUint10 acc [UInt8.ofNat (48 + d)] = .ok (acc * 10 + d) := by
  have e : (UInt8.ofNat (48 + d)).toNat = 48 + d := by simp; omega
  simp only [parseUint10, e]
  rw [if_pos (by omega), if_neg (by omega), if_neg (by omega)]
  congr 2; omega
theorem pu_digits : ∀ (u : Nat), u < 18446744073709551616 → parseUint10 0 (decDigits u) = .ok u := by
  intro u
  induction u using Nat.strongRecOn with
  | ind u ih =>
    intro hu
    by_cases h : u < 10
    · rw [decDigits_one h]
      have := pu_one 0 u h (by omega)
      simpa using this
    · rw [decDigits, dif_neg h]
      rw [pu_append _ _ 0 (u / 10) (ih (u / 10) (by omega) (by omega)), pu_one (u / 10) (u % 10) (by omega) (by omega)]
      congr 1; omega
theorem digits_bd (u : Nat) : ∀ c ∈ decDigits u, 48 ≤ c.toNat ∧ c.toNat ≤ 57 := by
  induction u using Nat.strongRecOn with
  | ind u ih =>
    intro c hc
    by_cases h : u < 10
    · rw [decDigits_one h, List.mem_singleton] at hc
      subst hc; simp; omega
    · rw [decDigits, dif_neg h, List.mem_append] at hc
      rcases hc with hc | hc
      · exact ih (u / 10) (by omega) c hc
      · rw [List.mem_singleton] at hc; subst hc; simp; omega
theorem digits_cons (u : Nat) : ∃ c r, decDigits u = c :: r ∧ 48 ≤ c.toNat ∧ c.toNat ≤ 57 := by
  cases h : decDigits u with
  | nil => have := decDigits_length u; rw [h] at this; have := nDigits_pos u; simp at *; omega
  | cons c r => exact ⟨c, r, rfl, digits_bd u c (by rw [h]; simp)⟩
theorem mag_digits (u : Nat) (hu : u < 18446744073709551616) : parseMag (decDigits u) = .ok u := by
  unfold parseMag
  obtain ⟨c, r, e, _⟩ := digits_cons u
  rw [if_neg (by rw [e]; simp)]; exact pu_digits u hu
theorem atoi_itoa (n : Int) (h0 : -9223372036854775808 ≤ n) (h1 : n ≤ 9223372036854775807) : atoiAll (itoa n) = .ok n := by
  unfold itoa
  by_cases h : n < 0
  · rw [if_pos h, atoiAll_minus, mag_digits _ (by omega)]
    simp only [signed]
    rw [if_neg (by omega)]; congr 1; omega
  · rw [if_neg h]
    obtain ⟨c, r, e, c1, c2⟩ := digits_cons n.toNat
    have hm := mag_digits n.toNat (by omega)
    rw [e] at hm ⊢
    rw [atoiAll_plain c r (by omega) (by omega), hm]
    simp only [signless]
    rw [if_neg (by omega)]; congr 1; omega
theorem index_p : ∀ (l r : List UInt8), (∀ c ∈ l, c.toNat ≤ 57) → indexByte (l ++ 112 :: r) 112 = l.length
  | [], r, _ => by simp [indexByte]
  | c :: l, r, h => by
    have hc : c.toNat ≤ 57 := h c (by simp)
    have hne : (c == 112) = false := by
      rw [beq_eq_false_iff_ne]; rintro rfl; simp at hc
    have ih := index_p l r (fun x hx => h x (by simp [hx]))
    simp only [List.cons_append, indexByte, hne, ih]
    have h2 : ((l.length : Int) == -1) = false := by rw [beq_eq_false_iff_ne]; omega
    simp [h2]
theorem cut_p (l r : List UInt8) (h : ∀ c ∈ l, c.toNat ≤ 57) : cut (l ++ 112 :: r) [112] = (l, r, true) := by
  unfold cut
  rw [index_one, index_p l r h, if_pos (by omega)]
  simp

/- Numbers that have a word. -/
def kB (r : Nat) : Nat := if r < 4503599627370496 then 0 else r / 4503599627370496 - 1
theorem mag_frac (r : Nat) : magW r = fracB r * 2 ^ kB r := by
  unfold magW fracB kB; split
  · simp
  · rfl
theorem place_k (r : Nat) : placeB r = -1074 + (kB r : Int) := by
  unfold placeB kB; split <;> simp
theorem frac_k (r : Nat) : kB r * 4503599627370496 + fracB r = r := by
  unfold fracB kB; split <;> omega
theorem log_shift (m a : Nat) (hm : m ≠ 0) : (m * 2 ^ a).log2 = m.log2 + a := by
  have hp := Nat.two_pow_pos a
  have h0 : m * 2 ^ a ≠ 0 := by have := Nat.mul_pos (Nat.pos_of_ne_zero hm) hp; omega
  have h1 : m.log2 + a ≤ (m * 2 ^ a).log2 := by
    rw [Nat.le_log2 h0, Nat.pow_add]; exact Nat.mul_le_mul_right _ (Nat.log2_self_le hm)
  have h2 : (m * 2 ^ a).log2 < m.log2 + 1 + a := by
    rw [Nat.log2_lt h0, Nat.pow_add]; exact Nat.mul_lt_mul_of_pos_right Nat.lt_log2_self hp
  omega
theorem log_frac (r : Nat) (h0 : 0 < r) : fracB r ≠ 0 ∧ ((kB r = 0 ∧ (fracB r).log2 ≤ 52) ∨ (fracB r).log2 = 52) ∧ fracB r < 9007199254740992 := by
  have hf : fracB r ≠ 0 ∧ fracB r < 9007199254740992 := by unfold fracB; split <;> omega
  refine ⟨hf.1, ?_, hf.2⟩
  by_cases h : r < 4503599627370496
  · left
    refine ⟨by unfold kB; rw [if_pos h], ?_⟩
    have : (fracB r).log2 < 53 := by rw [Nat.log2_lt hf.1]; omega
    omega
  · right
    have h2 : 4503599627370496 ≤ fracB r := by unfold fracB; rw [if_neg h]; omega
    exact log_m h2 hf.2
theorem nearest_exact (s : Bool) (m a c r : Nat) (h0 : 0 < r) (h1 : r < 9218868437227405312) (hm : m * 2 ^ a = magW r * 2 ^ c) (place : Int) (hp : place = (a : Int) - c - 1074) :
    Ieee.double.nearest s m place = wordS s r := by
  obtain ⟨f0, fl, fb⟩ := log_frac r h0
  have hfk := frac_k r
  rw [mag_frac, Nat.mul_assoc, ← Nat.pow_add] at hm
  generalize fracB r = f at *
  generalize kB r = k at *
  have m0 : m ≠ 0 := by
    rintro rfl
    have := Nat.mul_pos (Nat.pos_of_ne_zero f0) (Nat.two_pow_pos (k + c))
    omega
  have hl : m.log2 + a = f.log2 + (k + c) := by rw [← log_shift m a m0, ← log_shift f _ f0, hm]
  rw [double_nearest _ _ m0, word_wordS]
  have hlast : max (place + m.log2 - 52) (-1074) = (k : Int) - 1074 := by omega
  rw [hlast]
  have e1 : ((k : Int) - 1074 + 1074).toNat = k := by omega
  rw [e1]
  have ek : Ieee.Toward.even.cut s (m * 2 ^ (place - ((k : Int) - 1074)).toNat) ((k : Int) - 1074 - place).toNat = f := by
    by_cases h : k + c ≤ a
    · rw [show (place - ((k : Int) - 1074)).toNat = a - (k + c) by omega, show ((k : Int) - 1074 - place).toNat = 0 by omega, cut_drop0]
      have e2 : m * 2 ^ (a - (k + c)) * 2 ^ (k + c) = f * 2 ^ (k + c) := by
        rw [← hm, Nat.mul_assoc, ← Nat.pow_add]; congr 2; omega
      exact Nat.eq_of_mul_eq_mul_right (Nat.two_pow_pos _) e2
    · rw [show (place - ((k : Int) - 1074)).toNat = 0 by omega, show ((k : Int) - 1074 - place).toNat = k + c - a by omega, Nat.pow_zero, Nat.mul_one]
      refine cut_exact _ _ _ f (by omega) ?_
      have e2 : m * 2 ^ a = f * 2 ^ (k + c - a) * 2 ^ a := by
        rw [hm, Nat.mul_assoc, ← Nat.pow_add]; congr 2; omega
      exact Nat.eq_of_mul_eq_mul_right (Nat.two_pow_pos _) e2
  rw [ek, hfk, Nat.min_eq_left (by omega)]

/-- A whole number of at most 53 binary digits has a word. -/
theorem float_exact (o : Nat) (h0 : 0 < o) (h1 : o < 9007199254740992) :
    floatOfInt .f64 (o : Int) = (o.log2 + 1022) * 4503599627370496 + o * 2 ^ (52 - o.log2) ∧ 4503599627370496 ≤ o * 2 ^ (52 - o.log2) ∧ o * 2 ^ (52 - o.log2) < 9007199254740992 ∧ o.log2 ≤ 52 := by
  have hL : o.log2 < 53 := by rw [Nat.log2_lt (by omega)]; omega
  have hlo := Nat.log2_self_le (show o ≠ 0 by omega)
  have hhi := @Nat.lt_log2_self o
  have p1 : 2 ^ o.log2 * 2 ^ (52 - o.log2) = 4503599627370496 := by rw [← Nat.pow_add, show o.log2 + (52 - o.log2) = 52 by omega]
  have p2 : 2 ^ (o.log2 + 1) * 2 ^ (52 - o.log2) = 9007199254740992 := by rw [← Nat.pow_add, show o.log2 + 1 + (52 - o.log2) = 53 by omega]
  have b1 := Nat.mul_le_mul_right (2 ^ (52 - o.log2)) hlo
  have b2 : o * 2 ^ (52 - o.log2) < 2 ^ (o.log2 + 1) * 2 ^ (52 - o.log2) := Nat.mul_lt_mul_of_pos_right hhi (Nat.two_pow_pos _)
  rw [p1] at b1
  rw [p2] at b2
  refine ⟨?_, b1, b2, by omega⟩
  have e : floatOfInt .f64 (o : Int) = Ieee.double.nearest false o 0 := by
    show Ieee.double.write (.number (decide ((o : Int) < 0)) (o : Int).natAbs 0) = _
    rw [show decide ((o : Int) < 0) = false by simp, Int.natAbs_natCast]; rfl
  rw [e]
  generalize hM : o * 2 ^ (52 - o.log2) = M at *
  rw [nearest_exact false o 1074 0 ((o.log2 + 1022) * 4503599627370496 + M) (by omega) (by omega) ?_ 0 (by omega)]
  · rfl
  · unfold magW
    rw [if_neg (by omega), show ((o.log2 + 1022) * 4503599627370496 + M) / 4503599627370496 - 1 = o.log2 + 1022 by omega, show 4503599627370496 + ((o.log2 + 1022) * 4503599627370496 + M) % 4503599627370496 = M by omega, Nat.pow_zero, Nat.mul_one, ← hM, Nat.mul_assoc, ← Nat.pow_add, show 52 - o.log2 + (o.log2 + 1022) = 1074 by omega]
theorem odd_frac (b : Nat) (h0 : 0 < b) : fracB b = oddB b * 2 ^ ctz 64 (fracB b) ∧ 0 < oddB b := by
  obtain ⟨f0, _, fb⟩ := log_frac b h0
  obtain ⟨m, hm, hk⟩ := ctzFrom_spec 64 (fracB b) (by omega) (by omega)
  have e : ctz 64 (fracB b) = ctzFrom 64 (fracB b) := by unfold ctz; rw [if_neg f0]
  have h : oddB b = 2 * m + 1 := by
    unfold oddB; rw [e]
    generalize ctzFrom 64 (fracB b) = k at *
    rw [hm, Nat.mul_div_cancel_left _ (Nat.two_pow_pos k)]
  rw [e, h]
  refine ⟨?_, by omega⟩
  rw [Nat.mul_comm]; exact hm
theorem mul_exact (x y : Nat) (m n p q r a c : Nat) (hx : x < 9218868437227405312) (hy : y < 9218868437227405312)
    (ex : readN x = .number false m (-1074 + (p : Int))) (ey : readN y = .number false n (-1074 + (q : Int))) (h0 : 0 < r) (h1 : r < 9218868437227405312)
    (hm : m * n * 2 ^ a = magW r * 2 ^ c) (hp : (p : Int) + q - 1074 = (a : Int) - c) : mulB x y = r := by
  unfold mulB Ieee.Format.mul
  rw [read_eq x (by omega), read_eq y (by omega), ex, ey]
  show Ieee.double.nearest (false ^^ false) (m * n) (-1074 + (p : Int) + (-1074 + (q : Int))) = r
  rw [nearest_exact _ (m * n) a c r h0 h1 hm _ (by omega)]; rfl
theorem readN_norm (y : Nat) (h0 : 4503599627370496 ≤ y) (h1 : y < 9218868437227405312) :
    readN y = .number false (4503599627370496 + y % 4503599627370496) (-1074 + ((y / 4503599627370496 - 1 : Nat) : Int)) := by
  unfold readN
  rw [Nat.mod_eq_of_lt (show y < 9223372036854775808 by omega), if_neg (by omega), if_pos (by omega)]
  have : topB y = false := by unfold topB; simp; omega
  rw [this]
theorem ldexp_back (b : Nat) (h0 : 0 < b) (h1 : b < 9218868437227405312) : ldexpB (floatOfInt .f64 (oddB b : Int)) (powB b) = b := by
  obtain ⟨f0, fl, fb⟩ := log_frac b h0
  obtain ⟨ho, o0⟩ := odd_frac b h0
  have hpw : powB b = -1074 + (kB b : Int) + (ctz 64 (fracB b) : Int) := by unfold powB; rw [place_k]
  have hfk := frac_k b
  have hbd := powB_bd h0 h1
  have hmag := mag_frac b
  have hk64 := ctz_lt f0 (by omega)
  have hk0 : (b < 4503599627370496 → kB b = 0) ∧ (4503599627370496 ≤ b → kB b = b / 4503599627370496 - 1) := by
    unfold kB; constructor <;> intro h
    · rw [if_pos h]
    · rw [if_neg (by omega)]
  generalize ctz 64 (fracB b) = t at *
  generalize hf : fracB b = f at *
  generalize oddB b = o at *
  have ho2 : o < 9007199254740992 := by
    have := Nat.le_mul_of_pos_right o (Nat.two_pow_pos t); omega
  obtain ⟨ex, m0, m1, hL⟩ := float_exact o o0 ho2
  have hlog : f.log2 = o.log2 + t := by rw [ho, log_shift o t (by omega)]
  rw [ex]
  generalize o.log2 = L at *
  have hM : f * 2 ^ (52 - L) = o * 2 ^ (52 - L) * 2 ^ t := by
    rw [ho, Nat.mul_assoc, Nat.mul_assoc, Nat.mul_comm (2 ^ t)]
  have ho3 : o * 2 ^ (52 - L) * 2 ^ L = o * 4503599627370496 := by
    rw [Nat.mul_assoc, ← Nat.pow_add, show 52 - L + L = 52 by omega]
  generalize hMM : o * 2 ^ (52 - L) = M at *
  have hq : qB ((L + 1022) * 4503599627370496 + M) (powB b) = -1074 + (kB b : Int) + (f.log2 : Int) := by
    have e1 : (((L + 1022) * 4503599627370496 + M : Nat) : Int) / 4503599627370496 = (L : Int) + 1023 := by omega
    unfold qB
    rw [e1, hpw, hlog]
    unfold wrap64
    omega
  have hx0 : (L + 1022) * 4503599627370496 + M ≠ 0 := by omega
  have hmod : ((L + 1022) * 4503599627370496 + M) % 4503599627370496 = M - 4503599627370496 := by omega
  unfold ldexpB
  rw [if_neg hx0, hq, if_neg (by omega), if_neg (by omega)]
  by_cases hs : b < 4503599627370496
  · have hk := hk0.1 hs
    have hfb : f = b := by omega
    have hl52 : f.log2 < 52 := by rw [Nat.log2_lt f0]; omega
    rw [if_pos (by omega), hk]
    have hw : wordB ((L + 1022) * 4503599627370496 + M) (-1074 + ((0 : Nat) : Int) + (f.log2 : Int) + 53 + 1023) = M - 4503599627370496 + (f.log2 + 2) * 4503599627370496 := by
      unfold wordB; rw [hmod]; congr 2; omega
    rw [hw]
    have hy := readN_norm (M - 4503599627370496 + (f.log2 + 2) * 4503599627370496) (by omega) (by omega)
    rw [show 4503599627370496 + (M - 4503599627370496 + (f.log2 + 2) * 4503599627370496) % 4503599627370496 = M by omega, show (M - 4503599627370496 + (f.log2 + 2) * 4503599627370496) / 4503599627370496 - 1 = f.log2 + 1 by omega] at hy
    refine mul_exact 4368491638549381120 _ 4503599627370496 M 969 (f.log2 + 1) b (L + t) 104 (by omega) (by omega) (by decide) hy h0 h1 ?_ (by omega)
    rw [hmag, hk, Nat.pow_zero, Nat.mul_one, ho, Nat.pow_add]
    have e2 : (4503599627370496 : Nat) * M * (2 ^ L * 2 ^ t) = 4503599627370496 * (M * 2 ^ L) * 2 ^ t := by
      rw [Nat.mul_assoc, Nat.mul_assoc, Nat.mul_assoc]
    rw [e2, ho3]
    have e3 : (2 : Nat) ^ 104 = 4503599627370496 * 4503599627370496 := by decide
    rw [e3, Nat.mul_comm o 4503599627370496, ← Nat.mul_assoc, Nat.mul_assoc, Nat.mul_comm]
  · have hk := hk0.2 (by omega)
    have hl52 : f.log2 = 52 := by
      rcases fl with ⟨hk1, hl⟩ | hl
      · have h5 : 52 ≤ f.log2 := by
          rw [Nat.le_log2 f0]
          rw [hk1] at hfk
          omega
        omega
      · exact hl
    rw [if_neg (by omega)]
    have ht : t = 52 - L := by omega
    have hMf : M = f := by rw [← hMM, ho, ht]
    have hw : wordB ((L + 1022) * 4503599627370496 + M) (-1074 + (kB b : Int) + (f.log2 : Int) + 1023) = b := by
      have e5 : (-1074 + (kB b : Int) + (f.log2 : Int) + 1023).toNat = kB b + 1 := by omega
      have hf52 : 4503599627370496 ≤ f := by rw [← hMf]; exact m0
      unfold wordB; rw [hmod, hMf, e5]
      clear hq hbd hmag hM ho ho3 hMM
      omega
    rw [hw]
    have hy := readN_norm b (by omega) h1
    have e4 : 4503599627370496 + b % 4503599627370496 = f := by omega
    rw [e4, ← hk] at hy
    refine mul_exact 4607182418800017408 b 4503599627370496 f 1022 (kB b) b (kB b) 52 (by omega) h1 (by decide) hy h0 h1 ?_ (by omega)
    rw [hmag, Nat.mul_assoc, Nat.mul_comm]
end Go.Proofs.YtgppadnbfggkcaaDoor
