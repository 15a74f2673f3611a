/- Plain facts on the words of float64: which are no numbers, their order, the place of each. -/
import Derived.Laws.BitsAllLaws
import Derived.Laws.Cover2
import Derived.Laws.FloatBits
import Derived.Lib.TrailingZeros
import Derived.Lib.ItoaNum
namespace Go.Proofs.YtgppadnbfggkcaaDoor

def nanB (b : Nat) : Bool := (FloatKind.f64.format.order b b != some .eq)
def canonB (b : Nat) : Nat := if nanB b = true then 9221120237041090560 else b
def topB (b : Nat) : Bool := decide (9223372036854775808 ≤ b)
def keyX (x : Nat) : Nat := if topB x = true then 18446744073709551615 - x else x + 9223372036854775808
def keyN (b : Nat) : Nat := keyX (canonB b)

def negB (b : Nat) : Nat := if topB b = true then b - 9223372036854775808 else b + 9223372036854775808
def infB (b : Nat) : Bool := (FloatKind.f64.format.order b 9218868437227405311 == some .gt)
/-- The whole number of the least units' binade: the significand as an integer, and its place. -/
def fracB (b : Nat) : Nat := if b < 4503599627370496 then b else 4503599627370496 + b % 4503599627370496
def placeB (b : Nat) : Int := if b < 4503599627370496 then -1074 else -1074 + ((b / 4503599627370496 - 1 : Nat) : Int)
def oddB (b : Nat) : Nat := fracB b / 2 ^ Lib.ctz 64 (fracB b)
def powB (b : Nat) : Int := placeB b + (Lib.ctz 64 (fracB b) : Int)
def plainB (b : Nat) : List UInt8 := if b = 0 then [48] else Lib.decDigits (oddB b) ++ 112 :: Lib.itoa (powB b)
def printB (b : Nat) : List UInt8 :=
  if nanB b = true then [110, 97, 110] else if infB b = true then [105, 110, 102] else if infB (negB b) = true then [45, 105, 110, 102]
  else if topB b = true then 45 :: plainB (negB b) else plainB b
/-- A magnitude: the rung's number, in units of the least one. -/
def magW (r : Nat) : Nat := if r < 4503599627370496 then r else (4503599627370496 + r % 4503599627370496) * 2 ^ (r / 4503599627370496 - 1)
def valW (b : Nat) : Int := if topB b = true then -(magW (b % 9223372036854775808) : Int) else (magW (b % 9223372036854775808) : Int)

theorem magW_mono {r s : Nat} (h : r < s) : magW r < magW s := by
  unfold magW
  have hp : ∀ k, 0 < 2 ^ k := fun k => Nat.two_pow_pos k
  by_cases hr : r < 4503599627370496
  · rw [if_pos hr]
    by_cases hs : s < 4503599627370496
    · rw [if_pos hs]; exact h
    · rw [if_neg hs]
      have := Nat.le_mul_of_pos_right (4503599627370496 + s % 4503599627370496) (hp (s / 4503599627370496 - 1))
      omega
  · have hs : ¬ s < 4503599627370496 := by omega
    rw [if_neg hr, if_neg hs]
    by_cases hq : r / 4503599627370496 = s / 4503599627370496
    · rw [hq]
      exact Nat.mul_lt_mul_of_pos_right (by omega) (hp _)
    · have hlt : r / 4503599627370496 < s / 4503599627370496 := by omega
      have h1 : (4503599627370496 + r % 4503599627370496) * 2 ^ (r / 4503599627370496 - 1) < (2 * 4503599627370496) * 2 ^ (r / 4503599627370496 - 1) :=
        Nat.mul_lt_mul_of_pos_right (by omega) (hp _)
      have h2 : (2 * 4503599627370496) * 2 ^ (r / 4503599627370496 - 1) = 4503599627370496 * 2 ^ (r / 4503599627370496) := by
        have : r / 4503599627370496 = (r / 4503599627370496 - 1) + 1 := by omega
        rw [this, Nat.pow_succ]; simp only [Nat.add_sub_cancel]; rw [Nat.mul_comm 2, Nat.mul_assoc, Nat.mul_comm 2]
      have h3 : 2 ^ (r / 4503599627370496) ≤ 2 ^ (s / 4503599627370496 - 1) := Nat.pow_le_pow_right (by omega) (by omega)
      calc _ < _ := h1
        _ = _ := h2
        _ ≤ 4503599627370496 * 2 ^ (s / 4503599627370496 - 1) := Nat.mul_le_mul_left _ h3
        _ ≤ _ := Nat.mul_le_mul_right _ (by omega)

theorem magW_lt_iff {r s : Nat} : magW r < magW s ↔ r < s := by
  constructor
  · intro h
    rcases Nat.lt_trichotomy r s with h1 | h1 | h1
    · exact h1
    · subst h1; omega
    · have := magW_mono h1; omega
  · exact magW_mono
theorem magW_inj {r s : Nat} (h : magW r = magW s) : r = s := by
  rcases Nat.lt_trichotomy r s with h1 | h1 | h1
  · have := magW_mono h1; omega
  · exact h1
  · have := magW_mono h1; omega

theorem canonB_eq (b : Nat) (h : nanB b = false) : canonB b = b := by unfold canonB; rw [h]; rfl

open Ieee in
/-- What a word stands for, in numbers. -/
def readN (b : Nat) : Datum :=
  if b % 9223372036854775808 < 4503599627370496 then .number (topB b) (b % 9223372036854775808) (-1074)
  else if b % 9223372036854775808 < 9218868437227405312 then
    .number (topB b) (4503599627370496 + b % 9223372036854775808 % 4503599627370496) (-1074 + ((b % 9223372036854775808 / 4503599627370496 - 1 : Nat) : Int))
  else if b % 9223372036854775808 = 9218868437227405312 then .infinity (topB b)
  else .nan (topB b) (b % 9223372036854775808 - 9218868437227405312)

theorem top_eq (b : Nat) (hb : b < 18446744073709551616) : (b / 9223372036854775808 % 2 == 1) = topB b := by
  unfold topB
  rw [Bool.eq_iff_iff]; simp; omega

theorem read_eq (b : Nat) (hb : b < 18446744073709551616) : Ieee.double.read b = readN b := by
  have e1 : Ieee.double.signWeight = 9223372036854775808 := by decide
  have e2 : Ieee.double.binade = 4503599627370496 := by decide
  have e3 : Ieee.double.infRung = 9218868437227405312 := by decide
  have e4 : Ieee.double.leastPlace = -1074 := by decide
  unfold Ieee.Format.read readN
  simp only [e1, e2, e3, e4, top_eq b hb]

theorem cmp_int (x y : Int) : compare x y = if x < y then .lt else if x = y then .eq else .gt := rfl
theorem cmp_scale (x y : Int) (k : Nat) (hk : 0 < k) : compare (x * k) (y * k) = compare x y := by
  have hk' : (0 : Int) < k := by omega
  rw [cmp_int, cmp_int]
  have e1 : (x * k < y * k) ↔ x < y := Int.mul_lt_mul_right hk'
  have e2 : (x * (k : Int) = y * k) ↔ x = y := by
    constructor
    · intro h; exact Int.eq_of_mul_eq_mul_right (by omega) h
    · rintro rfl; rfl
  simp only [e1, e2]

theorem cmp_lt {x y : Int} (h : x < y) : compare x y = .lt := by rw [cmp_int, if_pos h]
theorem cmp_gt {x y : Int} (h : y < x) : compare x y = .gt := by rw [cmp_int, if_neg (by omega), if_neg (by omega)]
theorem cmp_eq (x : Int) : compare x x = .eq := by rw [cmp_int, if_neg (by omega), if_pos rfl]
def sgn (s : Bool) (n : Nat) : Int := if s = true then -(n : Int) else (n : Int)
theorem sgn_mul (s : Bool) (n k : Nat) : sgn s (n * k) = sgn s n * k := by
  unfold sgn; cases s <;> simp [Int.neg_mul]
theorem signed_eq (s : Bool) (m u : Nat) : Ieee.signed s m u = sgn s (m * 2 ^ u) := by
  unfold Ieee.signed sgn; rw [Nat.shiftLeft_eq]
theorem valW_eq (b : Nat) : valW b = sgn (topB b) (magW (b % 9223372036854775808)) := rfl

theorem order_numbers (s t : Bool) (m n p q : Nat) :
    Ieee.Datum.order (.number s m (-1074 + (p : Int))) (.number t n (-1074 + (q : Int))) = some (compare (sgn s (m * 2 ^ p)) (sgn t (n * 2 ^ q))) := by
  unfold Ieee.Datum.order
  simp only [signed_eq]
  have h1 : (-1074 + (p : Int) - min (-1074 + (p : Int)) (-1074 + (q : Int))).toNat = p - min p q := by omega
  have h2 : (-1074 + (q : Int) - min (-1074 + (p : Int)) (-1074 + (q : Int))).toNat = q - min p q := by omega
  rw [h1, h2]
  have e1 : m * 2 ^ p = m * 2 ^ (p - min p q) * 2 ^ (min p q) := by
    rw [Nat.mul_assoc, ← Nat.pow_add]; congr 2; omega
  have e2 : n * 2 ^ q = n * 2 ^ (q - min p q) * 2 ^ (min p q) := by
    rw [Nat.mul_assoc, ← Nat.pow_add]; congr 2; omega
  rw [e1, e2, sgn_mul _ _ (2 ^ min p q), sgn_mul _ _ (2 ^ min p q), cmp_scale _ _ _ (Nat.two_pow_pos _)]

theorem order_nan_left (b : Nat) (d : Ieee.Datum) (h : 9218868437227405312 < b % 9223372036854775808) : (readN b).order d = none := by
  unfold readN
  rw [if_neg (by omega), if_neg (by omega), if_neg (by omega)]
  rfl
theorem order_nan_right (b : Nat) (d : Ieee.Datum) (h : 9218868437227405312 < b % 9223372036854775808) : d.order (readN b) = none := by
  unfold readN
  rw [if_neg (by omega), if_neg (by omega), if_neg (by omega)]
  cases d <;> rfl
/-- A finite word, as a number in units of the least one. -/
theorem readN_fin (b : Nat) (h : b % 9223372036854775808 < 9218868437227405312) :
    ∃ m p : Nat, readN b = .number (topB b) m (-1074 + (p : Int)) ∧ m * 2 ^ p = magW (b % 9223372036854775808) := by
  unfold readN magW
  by_cases h1 : b % 9223372036854775808 < 4503599627370496
  · rw [if_pos h1, if_pos h1]
    exact ⟨b % 9223372036854775808, 0, by simp, by simp⟩
  · rw [if_neg h1, if_pos h, if_neg h1]
    exact ⟨_, _, rfl, rfl⟩
theorem readN_inf (b : Nat) (h : b % 9223372036854775808 = 9218868437227405312) : readN b = .infinity (topB b) := by
  unfold readN
  rw [if_neg (by omega), if_neg (by omega), if_pos h]

theorem order_val (a b : Nat) (ha : a < 18446744073709551616) (hb : b < 18446744073709551616)
    (na : a % 9223372036854775808 ≤ 9218868437227405312) (nb : b % 9223372036854775808 ≤ 9218868437227405312) :
    FloatKind.f64.format.order a b = some (compare (valW a) (valW b)) := by
  show (Ieee.double.read a).order (Ieee.double.read b) = _
  rw [read_eq a ha, read_eq b hb, valW_eq, valW_eq]
  have hinf : ∀ x, x % 9223372036854775808 < 9218868437227405312 → magW (x % 9223372036854775808) < magW 9218868437227405312 := fun x h => magW_mono h
  by_cases h1 : a % 9223372036854775808 = 9218868437227405312
  · rw [readN_inf a h1, h1]
    by_cases h2 : b % 9223372036854775808 = 9218868437227405312
    · rw [readN_inf b h2, h2]
      have hp : 0 < magW 9218868437227405312 := by
        have := magW_mono (r := 0) (s := 9218868437227405312) (by omega); omega
      generalize magW 9218868437227405312 = M at *
      unfold Ieee.Datum.order sgn
      cases topB a <;> cases topB b <;> simp only [if_true, Bool.false_eq_true, if_false] <;> first | (rw [cmp_eq]; rfl) | (rw [cmp_lt (by omega)]; rfl) | (rw [cmp_gt (by omega)]; rfl) | rw [cmp_lt (by omega)] | rw [cmp_gt (by omega)]
    · obtain ⟨m, p, e, ev⟩ := readN_fin b (by omega)
      rw [e, ← ev]
      have hlt := hinf b (by omega)
      rw [← ev] at hlt
      generalize magW 9218868437227405312 = M at *
      generalize m * 2 ^ p = N at *
      unfold Ieee.Datum.order sgn
      cases topB a <;> cases topB b <;> simp only [if_true, Bool.false_eq_true, if_false] <;> first | (rw [cmp_eq]; rfl) | (rw [cmp_lt (by omega)]; rfl) | (rw [cmp_gt (by omega)]; rfl) | rw [cmp_lt (by omega)] | rw [cmp_gt (by omega)]
  · obtain ⟨m, p, e, ev⟩ := readN_fin a (by omega)
    have hlt := hinf a (by omega)
    by_cases h2 : b % 9223372036854775808 = 9218868437227405312
    · rw [readN_inf b h2, h2, e, ← ev]
      rw [← ev] at hlt
      generalize magW 9218868437227405312 = M at *
      generalize m * 2 ^ p = N at *
      unfold Ieee.Datum.order sgn
      cases topB a <;> cases topB b <;> simp only [if_true, Bool.false_eq_true, if_false] <;> first | (rw [cmp_eq]; rfl) | (rw [cmp_lt (by omega)]; rfl) | (rw [cmp_gt (by omega)]; rfl) | rw [cmp_lt (by omega)] | rw [cmp_gt (by omega)]
    · obtain ⟨n, q, e', ev'⟩ := readN_fin b (by omega)
      rw [e, e', order_numbers, ev, ev']

theorem nanB_eq (b : Nat) (hb : b < 18446744073709551616) : nanB b = decide (9218868437227405312 < b % 9223372036854775808) := by
  unfold nanB
  by_cases h : 9218868437227405312 < b % 9223372036854775808
  · have : FloatKind.f64.format.order b b = none := by
      show (Ieee.double.read b).order (Ieee.double.read b) = _
      rw [read_eq b hb]; exact order_nan_left b _ h
    rw [this]; simp [h]
  · rw [order_val b b hb hb (by omega) (by omega), cmp_int]; simp [h]


theorem neg_lt {b : Nat} (hb : b < 18446744073709551616) : negB b < 18446744073709551616 := by
  unfold negB topB; split <;> simp_all <;> omega
theorem negFloat_eq {b : Nat} (hb : b < 18446744073709551616) : Op.negFloat .f64 b = negB b := by
  show b ^^^ 2 ^ 63 = _
  unfold negB topB
  apply Nat.eq_of_testBit_eq
  intro i
  rw [Nat.testBit_xor, Nat.testBit_two_pow]
  by_cases h : 9223372036854775808 ≤ b
  · rw [if_pos (by simpa using h)]
    obtain ⟨c, hc, rfl⟩ : ∃ c, c < 2 ^ 63 ∧ b = 2 ^ 63 + c := ⟨b - 2 ^ 63, by omega, by omega⟩
    rw [show 2 ^ 63 + c - 9223372036854775808 = c by omega]
    by_cases hi : 63 = i
    · subst hi; rw [Nat.testBit_two_pow_add_eq, Nat.testBit_lt_two_pow hc]; rfl
    · by_cases hl : i < 63
      · rw [Nat.testBit_two_pow_add_gt hl]; simp [hi]
      · rw [Nat.testBit_lt_two_pow (x := c) (Nat.lt_of_lt_of_le hc (Nat.pow_le_pow_right (by omega) (by omega))), Nat.testBit_lt_two_pow (Nat.lt_of_lt_of_le (show 2 ^ 63 + c < 2 ^ 64 by omega) (Nat.pow_le_pow_right (by omega) (by omega)))]; simp [hi]
  · rw [if_neg (by simpa using h), Nat.add_comm]
    have hc : b < 2 ^ 63 := by omega
    rw [show (9223372036854775808 : Nat) = 2 ^ 63 from rfl]
    by_cases hi : 63 = i
    · subst hi; rw [Nat.testBit_two_pow_add_eq, Nat.testBit_lt_two_pow hc]; rfl
    · by_cases hl : i < 63
      · rw [Nat.testBit_two_pow_add_gt hl]; simp [hi]
      · rw [Nat.testBit_lt_two_pow (x := b) (Nat.lt_of_lt_of_le hc (Nat.pow_le_pow_right (by omega) (by omega))), Nat.testBit_lt_two_pow (Nat.lt_of_lt_of_le (show 2 ^ 63 + b < 2 ^ 64 by omega) (Nat.pow_le_pow_right (by omega) (by omega)))]; simp [hi]

theorem valW_lt {b : Nat} (h : topB b = true) : valW b ≤ 0 := by unfold valW; rw [if_pos h]; omega
theorem cmp_gt_iff (x y : Int) : (compare x y = .gt) ↔ y < x := by
  rw [cmp_int]; split
  · simp; omega
  · split
    · simp; omega
    · simp; omega
theorem cmp_lt_iff (x y : Int) : (compare x y = .lt) ↔ x < y := by
  rw [cmp_int]; split
  · simp; omega
  · split
    · simp; omega
    · simp; omega
theorem cmp_eq_iff (x y : Int) : (compare x y = .eq) ↔ x = y := by
  rw [cmp_int]; split
  · simp; omega
  · split
    · simp; omega
    · simp; omega
theorem infB_eq {b : Nat} (hb : b < 18446744073709551616) : infB b = decide (b = 9218868437227405312) := by
  unfold infB
  by_cases hn : 9218868437227405312 < b % 9223372036854775808
  · have : FloatKind.f64.format.order b 9218868437227405311 = none := by
      show (Ieee.double.read b).order _ = _
      rw [read_eq b hb]; exact order_nan_left b _ hn
    rw [this, Bool.eq_iff_iff]; simp; omega
  · rw [order_val b _ hb (by omega) (by omega) (by omega)]
    have e : valW 9218868437227405311 = (magW 9218868437227405311 : Int) := rfl
    rw [Bool.eq_iff_iff, e]
    simp only [beq_iff_eq, Option.some.injEq, cmp_gt_iff, decide_eq_true_eq]
    unfold valW
    by_cases ht : topB b = true
    · rw [if_pos ht]; unfold topB at ht; simp at ht; constructor <;> intro <;> omega
    · rw [if_neg ht]
      unfold topB at ht; simp at ht
      constructor
      · intro h
        have h2 : magW 9218868437227405311 < magW (b % 9223372036854775808) := by omega
        rw [magW_lt_iff] at h2; omega
      · rintro rfl
        have := magW_mono (r := 9218868437227405311) (s := 9218868437227405312) (by omega)
        simpa using this
end Go.Proofs.YtgppadnbfggkcaaDoor
