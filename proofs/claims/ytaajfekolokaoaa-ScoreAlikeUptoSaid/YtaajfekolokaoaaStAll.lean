/- Plain facts on the words of float64: which are no numbers, their order, the place of each. Contracts of stamp's small functions: Canon, Key, Compare. The reference's form of a number. The walk of StampLatest. Arrays of bytes compared. -/
import Derived.Laws.BitsAllLaws
import Derived.Laws.Cover2
import Derived.Laws.FloatBits
import Derived.Lib.TrailingZeros
import Derived.Lib.ItoaNum
import Derived.Test.YtaajfekolokaoaaBase
import Derived.WalkKit
import Derived.WalkSpells
import Derived.WalkLawsBesides
import Derived.Lib.Hide
import Derived.Laws.OwnMore
import Derived.Deep.AppendLies
import Derived.Laws.StructEq
namespace Go.Proofs.Ytaajfekolokaoaa

def nanB (b : Nat) : Bool := (FloatKind.f64.format.order b b != some .eq)
def canonB (b : Nat) : Nat := if nanB b = true then 9221120237041090560 else b
def topB (b : Nat) : Bool := decide (9223372036854775808 ≤ b)
def keyX (x : Nat) : Nat := if topB x = true then 18446744073709551615 - x else x + 9223372036854775808
def keyN (b : Nat) : Nat := keyX (canonB b)

def negB (b : Nat) : Nat := if topB b = true then b - 9223372036854775808 else b + 9223372036854775808
def infB (b : Nat) : Bool := (FloatKind.f64.format.order b 9218868437227405311 == some .gt)
/-- The whole number of the least units' binade: the significand as an integer, and its place. -/
def fracB (b : Nat) : Nat := if b < 4503599627370496 then b else 4503599627370496 + b % 4503599627370496
def placeB (b : Nat) : Int := if b < 4503599627370496 then -1074 else -1074 + ((b / 4503599627370496 - 1 : Nat) : Int)
def oddB (b : Nat) : Nat := fracB b / 2 ^ Lib.ctz 64 (fracB b)
def powB (b : Nat) : Int := placeB b + (Lib.ctz 64 (fracB b) : Int)
def plainB (b : Nat) : List UInt8 := if b = 0 then [48] else Lib.decDigits (oddB b) ++ 112 :: Lib.itoa (powB b)
def printB (b : Nat) : List UInt8 :=
  if nanB b = true then [110, 97, 110] else if infB b = true then [105, 110, 102] else if infB (negB b) = true then [45, 105, 110, 102]
  else if topB b = true then 45 :: plainB (negB b) else plainB b
/-- A magnitude: the rung's number, in units of the least one. -/
def magW (r : Nat) : Nat := if r < 4503599627370496 then r else (4503599627370496 + r % 4503599627370496) * 2 ^ (r / 4503599627370496 - 1)
def valW (b : Nat) : Int := if topB b = true then -(magW (b % 9223372036854775808) : Int) else (magW (b % 9223372036854775808) : Int)

theorem magW_mono {r s : Nat} (h : r < s) : magW r < magW s := by
  unfold magW
  have hp : ∀ k, 0 < 2 ^ k := fun k => Nat.two_pow_pos k
  by_cases hr : r < 4503599627370496
  · rw [if_pos hr]
    by_cases hs : s < 4503599627370496
    · rw [if_pos hs]; exact h
    · rw [if_neg hs]
      have := Nat.le_mul_of_pos_right (4503599627370496 + s % 4503599627370496) (hp (s / 4503599627370496 - 1))
      omega
  · have hs : ¬ s < 4503599627370496 := by omega
    rw [if_neg hr, if_neg hs]
    by_cases hq : r / 4503599627370496 = s / 4503599627370496
    · rw [hq]
      exact Nat.mul_lt_mul_of_pos_right (by omega) (hp _)
    · have hlt : r / 4503599627370496 < s / 4503599627370496 := by omega
      have h1 : (4503599627370496 + r % 4503599627370496) * 2 ^ (r / 4503599627370496 - 1) < (2 * 4503599627370496) * 2 ^ (r / 4503599627370496 - 1) :=
        Nat.mul_lt_mul_of_pos_right (by omega) (hp _)
      have h2 : (2 * 4503599627370496) * 2 ^ (r / 4503599627370496 - 1) = 4503599627370496 * 2 ^ (r / 4503599627370496) := by
        have : r / 4503599627370496 = (r / 4503599627370496 - 1) + 1 := by omega
        rw [this, Nat.pow_succ]; simp only [Nat.add_sub_cancel]; rw [Nat.mul_comm 2, Nat.mul_assoc, Nat.mul_comm 2]
      have h3 : 2 ^ (r / 4503599627370496) ≤ 2 ^ (s / 4503599627370496 - 1) := Nat.pow_le_pow_right (by omega) (by omega)
      calc _ < _ := h1
        _ = _ := h2
        _ ≤ 4503599627370496 * 2 ^ (s / 4503599627370496 - 1) := Nat.mul_le_mul_left _ h3
        _ ≤ _ := Nat.mul_le_mul_right _ (by omega)

theorem magW_lt_iff {r s : Nat} : magW r < magW s ↔ r < s := by
  constructor
  · intro h
    rcases Nat.lt_trichotomy r s with h1 | h1 | h1
    · exact h1
    · subst h1; omega
    · have := magW_mono h1; omega
  · exact magW_mono
theorem magW_inj {r s : Nat} (h : magW r = magW s) : r = s := by
  rcases Nat.lt_trichotomy r s with h1 | h1 | h1
  · have := magW_mono h1; omega
  · exact h1
  · have := magW_mono h1; omega

theorem canonB_eq (b : Nat) (h : nanB b = false) : canonB b = b := by unfold canonB; rw [h]; rfl

open Ieee in
/-- What a word stands for, in numbers. -/
def readN (b : Nat) : Datum :=
  if b % 9223372036854775808 < 4503599627370496 then .number (topB b) (b % 9223372036854775808) (-1074)
  else if b % 9223372036854775808 < 9218868437227405312 then
    .number (topB b) (4503599627370496 + b % 9223372036854775808 % 4503599627370496) (-1074 + ((b % 9223372036854775808 / 4503599627370496 - 1 : Nat) : Int))
  else if b % 9223372036854775808 = 9218868437227405312 then .infinity (topB b)
  else .nan (topB b) (b % 9223372036854775808 - 9218868437227405312)

theorem top_eq (b : Nat) (hb : b < 18446744073709551616) : (b / 9223372036854775808 % 2 == 1) = topB b := by
  unfold topB
  rw [Bool.eq_iff_iff]; simp; omega

theorem read_eq (b : Nat) (hb : b < 18446744073709551616) : Ieee.double.read b = readN b := by
  have e1 : Ieee.double.signWeight = 9223372036854775808 := by decide
  have e2 : Ieee.double.binade = 4503599627370496 := by decide
  have e3 : Ieee.double.infRung = 9218868437227405312 := by decide
  have e4 : Ieee.double.leastPlace = -1074 := by decide
  unfold Ieee.Format.read readN
  simp only [e1, e2, e3, e4, top_eq b hb]

theorem cmp_int (x y : Int) : compare x y = if x < y then .lt else if x = y then .eq else .gt := rfl
theorem cmp_scale (x y : Int) (k : Nat) (hk : 0 < k) : compare (x * k) (y * k) = compare x y := by
  have hk' : (0 : Int) < k := by omega
  rw [cmp_int, cmp_int]
  have e1 : (x * k < y * k) ↔ x < y := Int.mul_lt_mul_right hk'
  have e2 : (x * (k : Int) = y * k) ↔ x = y := by
    constructor
    · intro h; exact Int.eq_of_mul_eq_mul_right (by omega) h
    · rintro rfl; rfl
  simp only [e1, e2]

theorem cmp_lt {x y : Int} (h : x < y) : compare x y = .lt := by rw [cmp_int, if_pos h]
theorem cmp_gt {x y : Int} (h : y < x) : compare x y = .gt := by rw [cmp_int, if_neg (by omega), if_neg (by omega)]
theorem cmp_eq (x : Int) : compare x x = .eq := by rw [cmp_int, if_neg (by omega), if_pos rfl]
def sgnF (s : Bool) (n : Nat) : Int := if s = true then -(n : Int) else (n : Int)
theorem sgnF_mul (s : Bool) (n k : Nat) : sgnF s (n * k) = sgnF s n * k := by
  unfold sgnF; cases s <;> simp [Int.neg_mul]
theorem signed_eq (s : Bool) (m u : Nat) : Ieee.signed s m u = sgnF s (m * 2 ^ u) := by
  unfold Ieee.signed sgnF; rw [Nat.shiftLeft_eq]
theorem valW_eq (b : Nat) : valW b = sgnF (topB b) (magW (b % 9223372036854775808)) := rfl

theorem order_numbers (s t : Bool) (m n p q : Nat) :
    Ieee.Datum.order (.number s m (-1074 + (p : Int))) (.number t n (-1074 + (q : Int))) = some (compare (sgnF s (m * 2 ^ p)) (sgnF t (n * 2 ^ q))) := by
  unfold Ieee.Datum.order
  simp only [signed_eq]
  have h1 : (-1074 + (p : Int) - min (-1074 + (p : Int)) (-1074 + (q : Int))).toNat = p - min p q := by omega
  have h2 : (-1074 + (q : Int) - min (-1074 + (p : Int)) (-1074 + (q : Int))).toNat = q - min p q := by omega
  rw [h1, h2]
  have e1 : m * 2 ^ p = m * 2 ^ (p - min p q) * 2 ^ (min p q) := by
    rw [Nat.mul_assoc, ← Nat.pow_add]; congr 2; omega
  have e2 : n * 2 ^ q = n * 2 ^ (q - min p q) * 2 ^ (min p q) := by
    rw [Nat.mul_assoc, ← Nat.pow_add]; congr 2; omega
  rw [e1, e2, sgnF_mul _ _ (2 ^ min p q), sgnF_mul _ _ (2 ^ min p q), cmp_scale _ _ _ (Nat.two_pow_pos _)]

theorem order_nan_left (b : Nat) (d : Ieee.Datum) (h : 9218868437227405312 < b % 9223372036854775808) : (readN b).order d = none := by
  unfold readN
  rw [if_neg (by omega), if_neg (by omega), if_neg (by omega)]
  rfl
theorem order_nan_right (b : Nat) (d : Ieee.Datum) (h : 9218868437227405312 < b % 9223372036854775808) : d.order (readN b) = none := by
  unfold readN
  rw [if_neg (by omega), if_neg (by omega), if_neg (by omega)]
  cases d <;> rfl
/-- A finite word, as a number in units of the least one. -/
theorem readN_fin (b : Nat) (h : b % 9223372036854775808 < 9218868437227405312) :
    ∃ m p : Nat, readN b = .number (topB b) m (-1074 + (p : Int)) ∧ m * 2 ^ p = magW (b % 9223372036854775808) := by
  unfold readN magW
  by_cases h1 : b % 9223372036854775808 < 4503599627370496
  · rw [if_pos h1, if_pos h1]
    exact ⟨b % 9223372036854775808, 0, by simp, by simp⟩
  · rw [if_neg h1, if_pos h, if_neg h1]
    exact ⟨_, _, rfl, rfl⟩
theorem readN_inf (b : Nat) (h : b % 9223372036854775808 = 9218868437227405312) : readN b = .infinity (topB b) := by
  unfold readN
  rw [if_neg (by omega), if_neg (by omega), if_pos h]

theorem order_val (a b : Nat) (ha : a < 18446744073709551616) (hb : b < 18446744073709551616)
    (na : a % 9223372036854775808 ≤ 9218868437227405312) (nb : b % 9223372036854775808 ≤ 9218868437227405312) :
    FloatKind.f64.format.order a b = some (compare (valW a) (valW b)) := by
  show (Ieee.double.read a).order (Ieee.double.read b) = _
  rw [read_eq a ha, read_eq b hb, valW_eq, valW_eq]
  have hinf : ∀ x, x % 9223372036854775808 < 9218868437227405312 → magW (x % 9223372036854775808) < magW 9218868437227405312 := fun x h => magW_mono h
  by_cases h1 : a % 9223372036854775808 = 9218868437227405312
  · rw [readN_inf a h1, h1]
    by_cases h2 : b % 9223372036854775808 = 9218868437227405312
    · rw [readN_inf b h2, h2]
      have hp : 0 < magW 9218868437227405312 := by
        have := magW_mono (r := 0) (s := 9218868437227405312) (by omega); omega
      generalize magW 9218868437227405312 = M at *
      unfold Ieee.Datum.order sgnF
      cases topB a <;> cases topB b <;> simp only [if_true, Bool.false_eq_true, if_false] <;> first | (rw [cmp_eq]; rfl) | (rw [cmp_lt (by omega)]; rfl) | (rw [cmp_gt (by omega)]; rfl) | rw [cmp_lt (by omega)] | rw [cmp_gt (by omega)]
    · obtain ⟨m, p, e, ev⟩ := readN_fin b (by omega)
      rw [e, ← ev]
      have hlt := hinf b (by omega)
      rw [← ev] at hlt
      generalize magW 9218868437227405312 = M at *
      generalize m * 2 ^ p = N at *
      unfold Ieee.Datum.order sgnF
      cases topB a <;> cases topB b <;> simp only [if_true, Bool.false_eq_true, if_false] <;> first | (rw [cmp_eq]; rfl) | (rw [cmp_lt (by omega)]; rfl) | (rw [cmp_gt (by omega)]; rfl) | rw [cmp_lt (by omega)] | rw [cmp_gt (by omega)]
  · obtain ⟨m, p, e, ev⟩ := readN_fin a (by omega)
    have hlt := hinf a (by omega)
    by_cases h2 : b % 9223372036854775808 = 9218868437227405312
    · rw [readN_inf b h2, h2, e, ← ev]
      rw [← ev] at hlt
      generalize magW 9218868437227405312 = M at *
      generalize m * 2 ^ p = N at *
      unfold Ieee.Datum.order sgnF
      cases topB a <;> cases topB b <;> simp only [if_true, Bool.false_eq_true, if_false] <;> first | (rw [cmp_eq]; rfl) | (rw [cmp_lt (by omega)]; rfl) | (rw [cmp_gt (by omega)]; rfl) | rw [cmp_lt (by omega)] | rw [cmp_gt (by omega)]
    · obtain ⟨n, q, e', ev'⟩ := readN_fin b (by omega)
      rw [e, e', order_numbers, ev, ev']

theorem nanB_eq (b : Nat) (hb : b < 18446744073709551616) : nanB b = decide (9218868437227405312 < b % 9223372036854775808) := by
  unfold nanB
  by_cases h : 9218868437227405312 < b % 9223372036854775808
  · have : FloatKind.f64.format.order b b = none := by
      show (Ieee.double.read b).order (Ieee.double.read b) = _
      rw [read_eq b hb]; exact order_nan_left b _ h
    rw [this]; simp [h]
  · rw [order_val b b hb hb (by omega) (by omega), cmp_int]; simp [h]


theorem neg_lt {b : Nat} (hb : b < 18446744073709551616) : negB b < 18446744073709551616 := by
  unfold negB topB; split <;> simp_all <;> omega
theorem negFloat_eq {b : Nat} (hb : b < 18446744073709551616) : Op.negFloat .f64 b = negB b := by
  show b ^^^ 2 ^ 63 = _
  unfold negB topB
  apply Nat.eq_of_testBit_eq
  intro i
  rw [Nat.testBit_xor, Nat.testBit_two_pow]
  by_cases h : 9223372036854775808 ≤ b
  · rw [if_pos (by simpa using h)]
    obtain ⟨c, hc, rfl⟩ : ∃ c, c < 2 ^ 63 ∧ b = 2 ^ 63 + c := ⟨b - 2 ^ 63, by omega, by omega⟩
    rw [show 2 ^ 63 + c - 9223372036854775808 = c by omega]
    by_cases hi : 63 = i
    · subst hi; rw [Nat.testBit_two_pow_add_eq, Nat.testBit_lt_two_pow hc]; rfl
    · by_cases hl : i < 63
      · rw [Nat.testBit_two_pow_add_gt hl]; simp [hi]
      · rw [Nat.testBit_lt_two_pow (x := c) (Nat.lt_of_lt_of_le hc (Nat.pow_le_pow_right (by omega) (by omega))), Nat.testBit_lt_two_pow (Nat.lt_of_lt_of_le (show 2 ^ 63 + c < 2 ^ 64 by omega) (Nat.pow_le_pow_right (by omega) (by omega)))]; simp [hi]
  · rw [if_neg (by simpa using h), Nat.add_comm]
    have hc : b < 2 ^ 63 := by omega
    rw [show (9223372036854775808 : Nat) = 2 ^ 63 from rfl]
    by_cases hi : 63 = i
    · subst hi; rw [Nat.testBit_two_pow_add_eq, Nat.testBit_lt_two_pow hc]; rfl
    · by_cases hl : i < 63
      · rw [Nat.testBit_two_pow_add_gt hl]; simp [hi]
      · rw [Nat.testBit_lt_two_pow (x := b) (Nat.lt_of_lt_of_le hc (Nat.pow_le_pow_right (by omega) (by omega))), Nat.testBit_lt_two_pow (Nat.lt_of_lt_of_le (show 2 ^ 63 + b < 2 ^ 64 by omega) (Nat.pow_le_pow_right (by omega) (by omega)))]; simp [hi]

theorem valW_lt {b : Nat} (h : topB b = true) : valW b ≤ 0 := by unfold valW; rw [if_pos h]; omega
theorem cmp_gt_iff (x y : Int) : (compare x y = .gt) ↔ y < x := by
  rw [cmp_int]; split
  · simp; omega
  · split
    · simp; omega
    · simp; omega
theorem cmp_lt_iff (x y : Int) : (compare x y = .lt) ↔ x < y := by
  rw [cmp_int]; split
  · simp; omega
  · split
    · simp; omega
    · simp; omega
theorem cmp_eq_iff (x y : Int) : (compare x y = .eq) ↔ x = y := by
  rw [cmp_int]; split
  · simp; omega
  · split
    · simp; omega
    · simp; omega
theorem infB_eq {b : Nat} (hb : b < 18446744073709551616) : infB b = decide (b = 9218868437227405312) := by
  unfold infB
  by_cases hn : 9218868437227405312 < b % 9223372036854775808
  · have : FloatKind.f64.format.order b 9218868437227405311 = none := by
      show (Ieee.double.read b).order _ = _
      rw [read_eq b hb]; exact order_nan_left b _ hn
    rw [this, Bool.eq_iff_iff]; simp; omega
  · rw [order_val b _ hb (by omega) (by omega) (by omega)]
    have e : valW 9218868437227405311 = (magW 9218868437227405311 : Int) := rfl
    rw [Bool.eq_iff_iff, e]
    simp only [beq_iff_eq, Option.some.injEq, cmp_gt_iff, decide_eq_true_eq]
    unfold valW
    by_cases ht : topB b = true
    · rw [if_pos ht]; unfold topB at ht; simp at ht; constructor <;> intro <;> omega
    · rw [if_neg ht]
      unfold topB at ht; simp at ht
      constructor
      · intro h
        have h2 : magW 9218868437227405311 < magW (b % 9223372036854775808) := by omega
        rw [magW_lt_iff] at h2; omega
      · rintro rfl
        have := magW_mono (r := 9218868437227405311) (s := 9218868437227405312) (by omega)
        simpa using this
end Go.Proofs.Ytaajfekolokaoaa
namespace Go.Proofs.Ytaajfekolokaoaa
open Go.RowKit

theorem ret_int {k : IntKind} {a b : Int} (h : a = b) : Ending.returned (.int k a) = .returned (.int k b) := by rw [h]
theorem fb14 (b : Nat) (w : World) : (callFunc 25 #[.float .f64 b]).run Try.prog w = .ok (.value (.int .u64 b)) w := by
  rw [run_callFunc_extern (e := Extern.MathFloatBits.float64bits) Try.func25 (by kernel_rfl) (by kernel_rfl) (by kernel_rfl) (by kernel_rfl)]; rfl
theorem fb27 (n : Int) (w : World) : (callFunc 37 #[.int .u64 n]).run Try.prog w = .ok (.value (.float .f64 n.toNat)) w := by
  rw [run_callFunc_extern (e := Extern.MathFloatBits.float64frombits) Try.func37 (by kernel_rfl) (by kernel_rfl) (by kernel_rfl) (by kernel_rfl)]; rfl

set_option maxHeartbeats 400000 in
theorem isnan_any (b : Nat) (w : World) :
    Calls Try.prog 36 #[.float .f64 b] w fun e w' => e = .returned (.bool (nanB b)) ∧ w = w' := by
  go_enter Try.func36, Try.ntmps36
  go_wp2
  go_ret
  exact ⟨rfl, rfl⟩

set_option maxHeartbeats 400000 in
theorem canon_nan (b : Nat) (h : nanB b = true) (w : World) :
    Calls Try.prog 35 #[.float .f64 b] w fun e w' => e = .returned (.float .f64 9221120237041090560) ∧ w = w' := by
  have h27 := fb27 9221120237041090560
  go_enter Try.func35, Try.ntmps35
  go_wp2_with (go_at_call 36; refine (isnan_any _ _).mono ?_; rintro e w' ⟨rfl, rfl⟩)
  go_ret
  exact ⟨rfl, rfl⟩
set_option maxHeartbeats 400000 in
theorem canon_num (b : Nat) (h : nanB b = false) (w : World) :
    Calls Try.prog 35 #[.float .f64 b] w fun e w' => e = .returned (.float .f64 b) ∧ w = w' := by
  go_enter Try.func35, Try.ntmps35
  go_wp2_with (go_at_call 36; refine (isnan_any _ _).mono ?_; rintro e w' ⟨rfl, rfl⟩)
  go_ret
  exact ⟨rfl, rfl⟩
theorem canon_any (b : Nat) (w : World) :
    Calls Try.prog 35 #[.float .f64 b] w fun e w' => e = .returned (.float .f64 (canonB b)) ∧ w = w' := by
  unfold canonB
  by_cases h : nanB b = true
  · rw [if_pos h]; exact canon_nan b h w
  · rw [if_neg h]; exact canon_num b (by simpa using h) w

theorem key_top {x : Nat} (hx : x < 18446744073709551616) (h : (bits BinOp.and IntKind.u64 (x : Int) 9223372036854775808 != 0) = true) :
    topB x = true ∧ bits BinOp.xor IntKind.u64 IntKind.u64.max (x : Int) = ((18446744073709551615 - x : Nat) : Int) := by
  have e := u64_and_nat x 9223372036854775808 hx (by omega)
  rw [show (9223372036854775808 : Nat) = 2 ^ 63 from rfl, nat_bit] at e
  have hm : IntKind.u64.max = ((18446744073709551615 : Nat) : Int) := by decide
  rw [show ((9223372036854775808 : Int)) = ((2 ^ 63 : Nat) : Int) from rfl, e] at h
  refine ⟨?_, ?_⟩
  · unfold topB; simp at h ⊢; omega
  · rw [hm, u64_xor_nat _ _ (by omega) hx]
    congr 1
    apply Nat.eq_of_testBit_eq
    intro i
    rw [Nat.testBit_xor, show (18446744073709551615 : Nat) = 2 ^ 64 - 1 from rfl, Nat.testBit_two_pow_sub_one, show (2 ^ 64 - 1 - x) = 2 ^ 64 - (x + 1) by omega, Nat.testBit_two_pow_sub_succ (by omega)]
    by_cases hi : i < 64
    · simp [hi]
    · simp [hi, Nat.testBit_lt_two_pow (Nat.lt_of_lt_of_le hx (show 18446744073709551616 ≤ 2 ^ i from Nat.pow_le_pow_right (n := 2) (by omega) (show 64 ≤ i by omega)))]
theorem key_low {x : Nat} (hx : x < 18446744073709551616) (h : (bits BinOp.and IntKind.u64 (x : Int) 9223372036854775808 != 0) = false) :
    topB x = false ∧ bits BinOp.or IntKind.u64 (x : Int) 9223372036854775808 = ((x + 9223372036854775808 : Nat) : Int) := by
  have e := u64_and_nat x 9223372036854775808 hx (by omega)
  rw [show (9223372036854775808 : Nat) = 2 ^ 63 from rfl, nat_bit] at e
  rw [show ((9223372036854775808 : Int)) = ((2 ^ 63 : Nat) : Int) from rfl, e] at h
  have hl : x < 2 ^ 63 := by simp at h; omega
  refine ⟨?_, ?_⟩
  · unfold topB; simp; omega
  · rw [show ((9223372036854775808 : Int)) = ((2 ^ 63 : Nat) : Int) from rfl, u64_or_nat _ _ hx (by omega)]
    congr 1
    rw [Nat.or_comm, nat_join 63 _ _ (by omega) hl]; omega
theorem canonB_lt {b : Nat} (hb : b < 18446744073709551616) : canonB b < 18446744073709551616 := by
  unfold canonB; split <;> omega

set_option maxHeartbeats 400000 in
theorem key_any (b : Nat) (hb : b < 18446744073709551616) (w : World) :
    Calls Try.prog 49 #[.float .f64 b] w fun e w' => e = .returned (.int .u64 (keyN b)) ∧ w = w' := by
  have h14 := fb14
  have hc := canonB_lt hb
  unfold keyN
  generalize hx : canonB b = x at hc
  have Hx := Lib.hid hx
  clear hx
  go_enter Try.func49, Try.ntmps49
  go_wp2_with (go_at_call 35; refine (canon_any _ _).mono ?_; rw [Hx.out]; rintro e w' ⟨rfl, rfl⟩)
  · have h : (bits BinOp.and IntKind.u64 (x : Int) 9223372036854775808 != 0) = true := by assumption
    obtain ⟨h1, h2⟩ := key_top hc h
    go_ret
    refine ⟨ret_int ?_, rfl⟩
    unfold keyX; rw [if_pos h1]; exact h2
  · have h : (bits BinOp.and IntKind.u64 (x : Int) 9223372036854775808 != 0) = false := by assumption
    obtain ⟨h1, h2⟩ := key_low hc h
    go_ret
    refine ⟨ret_int ?_, rfl⟩
    unfold keyX; rw [if_neg (by rw [h1]; decide)]; exact h2
def cmpN (a b : Nat) : Int := if a < b then -1 else if b < a then 1 else 0
set_option maxHeartbeats 400000 in
theorem cmp64_any (a b : Nat) (w : World) :
    Calls Try.prog 48 #[.int .u64 a, .int .u64 b] w fun e w' => e = .returned (.int .i64 (cmpN a b)) ∧ w = w' := by
  unfold cmpN
  go_enter Try.func48, Try.ntmps48
  go_wp2
  all_goals (go_ret; exact ⟨rfl, rfl⟩)
set_option maxHeartbeats 400000 in
theorem st_compare_any (a b : Nat) (ha : a < 18446744073709551616) (hb : b < 18446744073709551616) (w : World) :
    Calls Try.prog 34 #[.float .f64 a, .float .f64 b] w fun e w' => e = .returned (.int .i64 (cmpN (keyN a) (keyN b))) ∧ w = w' := by
  go_enter Try.func34, Try.ntmps34
  go_wp2_with fail
  refine (key_any a ha _).mono ?_; rintro e w' ⟨rfl, rfl⟩
  go_wp2_with fail
  refine (key_any b hb _).mono ?_; rintro e w' ⟨rfl, rfl⟩
  go_wp2_with fail
  refine (cmp64_any _ _ _).mono ?_; rintro e w' ⟨rfl, rfl⟩
  go_wp2_with fail
  go_ret
  exact ⟨rfl, rfl⟩
end Go.Proofs.Ytaajfekolokaoaa
namespace Go.Proofs.Ytaajfekolokaoaa
open Go.RowKit

def beforeX (x y : Nat) : Bool := if topB x = true then (if topB y = true then decide (y < x) else true) else if topB y = true then false else decide (x < y)
theorem before_iff {x y : Nat} (hx : x < 18446744073709551616) (hy : y < 18446744073709551616) : beforeX x y = decide (keyX x < keyX y) := by
  unfold beforeX keyX
  cases h1 : topB x <;> cases h2 : topB y <;> unfold topB at h1 h2 <;> simp at h1 h2 <;> simp <;> omega

set_option maxRecDepth 100000 in
set_option maxHeartbeats 400000 in
theorem rbits_nan (b : Nat) (h : nanB b = true) (w : World) :
    Calls Try.prog 31 #[.float .f64 b] w fun e w' => e = .returned (.int .u64 (canonB b)) ∧ w = w' := by
  have e : canonB b = 9221120237041090560 := by unfold canonB; rw [if_pos h]
  rw [e]
  have h' : (FloatKind.f64.format.order b b != some .eq) = true := h
  clear e h
  go_enter Try.func31, Try.ntmps31
  go_wp2
  go_ret
  exact ⟨rfl, rfl⟩
set_option maxRecDepth 100000 in
set_option maxHeartbeats 400000 in
theorem rbits_num (b : Nat) (h : nanB b = false) (w : World) :
    Calls Try.prog 31 #[.float .f64 b] w fun e w' => e = .returned (.int .u64 (canonB b)) ∧ w = w' := by
  have e : canonB b = b := canonB_eq b h
  rw [e]
  have h' : (FloatKind.f64.format.order b b != some .eq) = false := h
  have h14 := fb14
  clear e h
  go_enter Try.func31, Try.ntmps31
  go_wp2
  go_ret
  exact ⟨rfl, rfl⟩
theorem rbits_any (b : Nat) (w : World) : Calls Try.prog 31 #[.float .f64 b] w fun e w' => e = .returned (.int .u64 (canonB b)) ∧ w = w' := by
  cases h : nanB b with
  | true => exact rbits_nan b h w
  | false => exact rbits_num b h w
theorem top_hd {x : Nat} {c : Bool} (h : topB x = c) : decide ((9223372036854775808 : Int) ≤ (x : Int)) = c := by
  rw [← h]; unfold topB; rw [Bool.eq_iff_iff]; simp; omega
set_option maxRecDepth 100000 in
set_option maxHeartbeats 1000000 in
theorem before_aux (a b x y : Nat) (w : World) (H1 : Hid (∀ w, Calls Try.prog 31 #[.float .f64 a] w fun e w' => e = .returned (.int .u64 x) ∧ w = w'))
    (H2 : Hid (∀ w, Calls Try.prog 31 #[.float .f64 b] w fun e w' => e = .returned (.int .u64 y) ∧ w = w')) (r : Bool) (hr : beforeX x y = r) :
    Calls Try.prog 17 #[.float .f64 a, .float .f64 b] w fun e w' => e = .returned (.bool r) ∧ w = w' := by
  have hB : beforeX x y = if topB x = true then (if topB y = true then decide (y < x) else true) else if topB y = true then false else decide (x < y) := rfl
  rw [hr] at hB
  cases h1 : topB x <;> cases h2 : topB y <;> rw [h1, h2] at hB
  all_goals
    have d1 := top_hd h1
    have d2 := top_hd h2
    simp only [if_true, Bool.false_eq_true, if_false] at hB
    clear h1 h2 hr
  · have HB := Lib.hid hB
    clear hB
    · go_enter Try.func17, Try.ntmps17
      go_wp2_with fail
      refine (H1.out _).mono ?_
      rintro e w' ⟨rfl, rfl⟩
      go_wp2_with fail
      refine (H2.out _).mono ?_
      rintro e w' ⟨rfl, rfl⟩
      go_wp2
      go_ret
      exact ⟨by rw [HB.out]; rfl, rfl⟩
  · subst hB
    go_enter Try.func17, Try.ntmps17
    go_wp2_with fail
    refine (H1.out _).mono ?_
    rintro e w' ⟨rfl, rfl⟩
    go_wp2_with fail
    refine (H2.out _).mono ?_
    rintro e w' ⟨rfl, rfl⟩
    go_wp2
    go_ret
    exact ⟨rfl, rfl⟩
  · subst hB
    go_enter Try.func17, Try.ntmps17
    go_wp2_with fail
    refine (H1.out _).mono ?_
    rintro e w' ⟨rfl, rfl⟩
    go_wp2_with fail
    refine (H2.out _).mono ?_
    rintro e w' ⟨rfl, rfl⟩
    go_wp2
    go_ret
    exact ⟨rfl, rfl⟩
  · have HB := Lib.hid hB
    clear hB
    · go_enter Try.func17, Try.ntmps17
      go_wp2_with fail
      refine (H1.out _).mono ?_
      rintro e w' ⟨rfl, rfl⟩
      go_wp2_with fail
      refine (H2.out _).mono ?_
      rintro e w' ⟨rfl, rfl⟩
      go_wp2
      go_ret
      exact ⟨by rw [HB.out]; rfl, rfl⟩
theorem before_any (a b : Nat) (w : World) :
    Calls Try.prog 17 #[.float .f64 a, .float .f64 b] w fun e w' => e = .returned (.bool (beforeX (canonB a) (canonB b))) ∧ w = w' :=
  before_aux a b _ _ w (Lib.hid (rbits_any a)) (Lib.hid (rbits_any b)) _ rfl
end Go.Proofs.Ytaajfekolokaoaa
namespace Go.Proofs.Ytaajfekolokaoaa
open Go.RowKit

def latStep (last f : Nat) : Nat := if keyN last < keyN f then f else last
def latL (l : List Nat) : Nat := l.foldl latStep 18442240474082181120
theorem latL_snoc (l : List Nat) (f : Nat) : latL (l ++ [f]) = latStep (latL l) f := by unfold latL; rw [List.foldl_append]; rfl
theorem latL_lt : ∀ (l : List Nat), (∀ f ∈ l, f < 18446744073709551616) → latL l < 18446744073709551616 := by
  have h : ∀ (l : List Nat) (s : Nat), s < 18446744073709551616 → (∀ f ∈ l, f < 18446744073709551616) → l.foldl latStep s < 18446744073709551616 := by
    intro l
    induction l with
    | nil => intro s hs _; exact hs
    | cons f l ih =>
      intro s hs hl
      refine ih _ ?_ (fun x hx => hl x (by simp [hx]))
      unfold latStep; split
      · exact hl f (by simp)
      · exact hs
  exact fun l hl => h l _ (by omega) hl
/-- A slice value over cells that hold these words. -/
def FloatsAt (w : World) (a : Option Addr) (l : List Nat) : Prop := ∀ k, k < l.length → ∃ ad, a = some ad ∧ w.cell? (ad.add k) = some (.float .f64 (l.getD k 0))

theorem take_snocF (l : List Nat) (k : Nat) (h : k < l.length) : l.take (k + 1) = l.take k ++ [l.getD k 0] := by
  rw [List.take_succ_eq_append_getElem h]; simp [List.getD, h]
theorem cmp_pos (x y : Nat) : (0 < cmpN (keyN x) (keyN y)) ↔ keyN y < keyN x := by
  unfold cmpN; split
  · constructor <;> intro <;> omega
  · split
    · constructor <;> intro <;> omega
    · constructor <;> intro <;> omega
end Go.Proofs.Ytaajfekolokaoaa
namespace Go.Proofs.Ytaajfekolokaoaa
open Go.RowKit

section
variable {P : Program} (w : World)
theorem part_byte {e : TypeId} (ha : (isAgg e).run P w = .ok false w) (l : List UInt8) (i : Nat) (h : i < l.length) : (part e (bv l).toArray i).run P w = .ok (.int .u8 (l[i].toNat : Nat)) w := by
  have : (bv l).toArray[i]? = some (.int .u8 (l[i].toNat : Nat)) := by unfold bv; simp [List.getElem?_eq_getElem h]
  simp [part, ha, this]
theorem arr_loop (d : Nat) {e : TypeId} {k' : IntKind} (he : P.underlying e = some (.int k')) (ha : ∀ w, (isAgg e).run P w = .ok false w) (xs ys : List UInt8) (hl : xs.length = ys.length) : ∀ (m i : Nat), i + m = xs.length →
    Sem.run P (forIn (List.range' i m) ((none, ()) : Option Bool × Unit) fun i __s => do
              let a ← part e (bv xs).toArray (i * 1)
              let b ← part e (bv ys).toArray (i * 1)
              let r ← Op.equalIn (d + 1) e a b
              if (!r) = true then pure (ForInStep.done (some false, ())) else pure (ForInStep.yield (none, ()))) w
    = .ok (if xs.drop i = ys.drop i then none else some false, ()) w
  | 0, i, h => by
    rw [List.drop_of_length_le (by omega), List.drop_of_length_le (by omega)]
    simp
  | m + 1, i, h => by
    have h1 : i < xs.length := by omega
    have h2 : i < ys.length := by omega
    rw [List.range'_succ, List.forIn_cons]
    simp only [Sem.run_bind, Nat.mul_one, part_byte w (ha w) xs i h1, part_byte w (ha w) ys i h2, Result.andThen_ok, run_equalIn_int w d e .u8 k' _ _ he]
    have dx := List.drop_eq_getElem_cons h1
    have dy := List.drop_eq_getElem_cons h2
    by_cases hb : xs[i] = ys[i]
    · rw [hb]
      simp only [beq_self_eq_true, Bool.not_true, Bool.false_eq_true, if_false, Sem.run_pure, Result.andThen_ok]
      have := arr_loop d he ha xs ys hl m (i + 1) (by omega)
      simp only [Nat.mul_one] at this
      rw [this, dx, dy, hb]
      by_cases hd : xs.drop (i + 1) = ys.drop (i + 1)
      · rw [if_pos hd, if_pos (by rw [hd])]
      · rw [if_neg hd, if_neg (fun e => hd (List.cons.inj e).2)]
    · have hn : ¬ xs.drop i = ys.drop i := fun e => by rw [dx, dy] at e; exact hb (List.cons.inj e).1
      have hne : ((xs[i].toNat : Int) == (ys[i].toNat : Int)) = false := by
        rw [beq_eq_false_iff_ne]; intro e; exact hb (UInt8.toNat_inj.1 (by omega))
      rw [hne, if_neg hn]
      simp
theorem run_equalIn_arr (d : Nat) (t : TypeId) (n : Nat) (e : TypeId) (k' : IntKind) (xs ys : List UInt8) (ht : P.underlying t = some (.array n e)) (he : P.underlying e = some (.int k')) (ha : ∀ w, (isAgg e).run P w = .ok false w) (hs : ∀ w, (sizeOf e).run P w = .ok 1 w) (hx : xs.length = n) (hy : ys.length = n) :
   (Op.equalIn (d + 2) t (.agg (bv xs).toArray) (.agg (bv ys).toArray)).run P w = .ok (decide (xs = ys)) w := by
  rw [Op.equalIn]
  simp only [Sem.run_bind, run_underlying ht, Result.andThen_ok, hs]
  rw [Std.Legacy.Range.forIn_eq_forIn_range']
  have := arr_loop w d he ha xs ys (by omega) n 0 (by omega)
  simp only [Std.Legacy.Range.size, Nat.sub_zero, Nat.add_sub_cancel, Nat.div_one]
  rw [this]
  by_cases h : xs = ys <;> simp [h]
theorem run_neq_id (t : TypeId) (n : Nat) (e : TypeId) (k' : IntKind) (xs ys : List UInt8) (ht : P.underlying t = some (.array n e)) (he : P.underlying e = some (.int k')) (ha : ∀ w, (isAgg e).run P w = .ok false w) (hs : ∀ w, (sizeOf e).run P w = .ok 1 w) (hx : xs.length = n) (hy : ys.length = n) :
   (binOp .neq t (.agg (bv xs).toArray) (.agg (bv ys).toArray)).run P w = .ok (.bool (decide (xs ≠ ys))) w := by
  rw [run_neq_struct, run_equalIn_arr w 9998 t n e k' xs ys ht he ha hs hx hy]
  by_cases h : xs = ys <;> simp [h]
theorem run_eql_id (t : TypeId) (n : Nat) (e : TypeId) (k' : IntKind) (xs ys : List UInt8) (ht : P.underlying t = some (.array n e)) (he : P.underlying e = some (.int k')) (ha : ∀ w, (isAgg e).run P w = .ok false w) (hs : ∀ w, (sizeOf e).run P w = .ok 1 w) (hx : xs.length = n) (hy : ys.length = n) :
   (binOp .eql t (.agg (bv xs).toArray) (.agg (bv ys).toArray)).run P w = .ok (.bool (decide (xs = ys))) w := by
  rw [run_eql_struct, run_equalIn_arr w 9998 t n e k' xs ys ht he ha hs hx hy]
  simp
end
end Go.Proofs.Ytaajfekolokaoaa
