/- The walk of StampTotal. -/
import Derived.Test.YtgppadnbfggkcaaDoorH
namespace Go.Proofs.YtgppadnbfggkcaaDoor
open Go.RowKit

theorem key_of_val {a b : Nat} (ha : a < 18446744073709551616) (hb : b < 18446744073709551616) (h : valW a < valW b) : keyX a < keyX b := by
  unfold valW at h
  unfold keyX
  cases h1 : topB a <;> cases h2 : topB b <;> rw [h1, h2] at h <;> simp only [if_true, Bool.false_eq_true, if_false] at h ⊢ <;> unfold topB at h1 h2 <;> simp at h1 h2
  · have h3 : magW (a % 9223372036854775808) < magW (b % 9223372036854775808) := by omega
    rw [magW_lt_iff] at h3; omega
  · omega
  · omega
  · have h3 : magW (b % 9223372036854775808) < magW (a % 9223372036854775808) := by omega
    rw [magW_lt_iff] at h3; omega
theorem order_num {a b : Nat} (ha : a < 18446744073709551616) (hb : b < 18446744073709551616) {o : Ordering} (h : FloatKind.f64.format.order a b = some o) :
    canonB a = a ∧ canonB b = b ∧ o = compare (valW a) (valW b) := by
  have na : a % 9223372036854775808 ≤ 9218868437227405312 := by
    by_cases hn : 9218868437227405312 < a % 9223372036854775808
    · have : FloatKind.f64.format.order a b = none := by
        show (Ieee.double.read a).order _ = _
        rw [read_eq a ha]; exact order_nan_left a _ hn
      rw [this] at h; cases h
    · omega
  have nb : b % 9223372036854775808 ≤ 9218868437227405312 := by
    by_cases hn : 9218868437227405312 < b % 9223372036854775808
    · have : FloatKind.f64.format.order a b = none := by
        show (Ieee.double.read a).order (Ieee.double.read b) = _
        rw [read_eq b hb]; exact order_nan_right b _ hn
      rw [this] at h; cases h
    · omega
  rw [order_val a b ha hb na nb] at h
  refine ⟨canonB_eq a ?_, canonB_eq b ?_, (Option.some.inj h).symm⟩
  · rw [nanB_eq a ha]; simp; omega
  · rw [nanB_eq b hb]; simp; omega
theorem less_key {a b : Nat} (ha : a < 18446744073709551616) (hb : b < 18446744073709551616) (h : (FloatKind.f64.format.order a b == some .lt) = true) : keyN a < keyN b := by
  rw [beq_iff_eq] at h
  obtain ⟨e1, e2, e3⟩ := order_num ha hb h
  unfold keyN; rw [e1, e2]
  exact key_of_val ha hb ((cmp_lt_iff _ _).1 e3.symm)
theorem more_key {a b : Nat} (ha : a < 18446744073709551616) (hb : b < 18446744073709551616) (h : (FloatKind.f64.format.order a b == some .gt) = true) : keyN b < keyN a := by
  rw [beq_iff_eq] at h
  obtain ⟨e1, e2, e3⟩ := order_num ha hb h
  unfold keyN; rw [e1, e2]
  exact key_of_val hb ha ((cmp_gt_iff _ _).1 e3.symm)
theorem keyX_inj {x y : Nat} (hx : x < 18446744073709551616) (hy : y < 18446744073709551616) (h : keyX x = keyX y) : x = y := by
  unfold keyX at h
  cases h1 : topB x <;> cases h2 : topB y <;> rw [h1, h2] at h <;> simp only [if_true, Bool.false_eq_true, if_false] at h <;> unfold topB at h1 h2 <;> simp at h1 h2 <;> omega

/-- What the three comparisons, and the language's own two, can be. -/
def Fits (X Y Z : Int) (A B S : Bool) : Prop :=
  (X = -1 ∧ S = false ∧ B = false ∧ ((Y = -1 ∧ Z = -1) ∨ (Y = 0 ∧ Z = -1) ∨ (Y = 1 ∧ (Z = -1 ∨ Z = 0 ∨ Z = 1)))) ∨
  (X = 0 ∧ S = true ∧ A = false ∧ B = false ∧ ((Y = -1 ∧ Z = -1) ∨ (Y = 0 ∧ Z = 0) ∨ (Y = 1 ∧ Z = 1))) ∨
  (X = 1 ∧ S = false ∧ A = false ∧ ((Y = -1 ∧ (Z = -1 ∨ Z = 0 ∨ Z = 1)) ∨ (Y = 0 ∧ Z = 1) ∨ (Y = 1 ∧ Z = 1)))
theorem fits {a b c : Nat} (ha : a < 18446744073709551616) (hb : b < 18446744073709551616) :
    Fits (cmpN (keyN a) (keyN b)) (cmpN (keyN b) (keyN c)) (cmpN (keyN a) (keyN c)) (FloatKind.f64.format.order a b == some .lt) (FloatKind.f64.format.order a b == some .gt) (keyN a == keyN b) := by
  have h1 : (FloatKind.f64.format.order a b == some .lt) = true → keyN a < keyN b := less_key ha hb
  have h2 : (FloatKind.f64.format.order a b == some .gt) = true → keyN b < keyN a := more_key ha hb
  generalize (FloatKind.f64.format.order a b == some .lt) = A at *
  generalize (FloatKind.f64.format.order a b == some .gt) = B at *
  generalize keyN a = x at *
  generalize keyN b = y at *
  generalize keyN c = z at *
  have hA : A = false ∨ x < y := by cases A <;> simp_all
  have hB : B = false ∨ y < x := by cases B <;> simp_all
  unfold Fits cmpN
  rcases Nat.lt_trichotomy x y with h | h | h
  · left
    refine ⟨if_pos h, by simp; omega, by rcases hB with e | e; exact e; omega, ?_⟩
    rcases Nat.lt_trichotomy y z with h3 | h3 | h3
    · left; exact ⟨if_pos h3, if_pos (by omega)⟩
    · right; left; subst h3; exact ⟨by rw [if_neg (by omega), if_neg (by omega)], if_pos h⟩
    · right; right
      refine ⟨by rw [if_neg (by omega), if_pos h3], ?_⟩
      rcases Nat.lt_trichotomy x z with h4 | h4 | h4
      · left; exact if_pos h4
      · right; left; rw [if_neg (by omega), if_neg (by omega)]
      · right; right; rw [if_neg (by omega), if_pos h4]
  · right; left
    subst h
    refine ⟨by rw [if_neg (by omega), if_neg (by omega)], by simp, by rcases hA with e | e; exact e; omega, by rcases hB with e | e; exact e; omega, ?_⟩
    rcases Nat.lt_trichotomy x z with h3 | h3 | h3
    · left; exact ⟨if_pos h3, if_pos h3⟩
    · right; left; subst h3; exact ⟨by rw [if_neg (by omega), if_neg (by omega)], by rw [if_neg (by omega), if_neg (by omega)]⟩
    · right; right; exact ⟨by rw [if_neg (by omega), if_pos h3], by rw [if_neg (by omega), if_pos h3]⟩
  · right; right
    refine ⟨by rw [if_neg (by omega), if_pos h], by simp; omega, by rcases hA with e | e; exact e; omega, ?_⟩
    rcases Nat.lt_trichotomy y z with h3 | h3 | h3
    · left
      refine ⟨if_pos h3, ?_⟩
      rcases Nat.lt_trichotomy x z with h4 | h4 | h4
      · left; exact if_pos h4
      · right; left; rw [if_neg (by omega), if_neg (by omega)]
      · right; right; rw [if_neg (by omega), if_pos h4]
    · right; left; subst h3; exact ⟨by rw [if_neg (by omega), if_neg (by omega)], by rw [if_neg (by omega), if_pos h]⟩
    · right; right; exact ⟨by rw [if_neg (by omega), if_pos h3], by rw [if_neg (by omega), if_pos (by omega)]⟩

theorem cmpN_swap (x y : Nat) : cmpN y x = -cmpN x y := by
  unfold cmpN
  rcases Nat.lt_trichotomy x y with h | h | h
  · rw [if_neg (by omega), if_pos h, if_pos h]; rfl
  · subst h; rw [if_neg (by omega), if_neg (by omega)]; rfl
  · rw [if_pos h, if_neg (by omega), if_pos h]

set_option maxRecDepth 100000 in
set_option maxHeartbeats 4000000 in
theorem total_aux (a b c : Nat) (X Y Z : Int) (x y ka kb : Nat) (A B S : Bool) (hF : Fits X Y Z A B S) (w : World) (HE : Hid (Env w))
    (C1 : Hid (∀ w, Calls Tryd.prog 13 #[.float .f64 a, .float .f64 b] w fun e w' => e = .returned (.int .i64 X) ∧ w = w'))
    (C2 : Hid (∀ w, Calls Tryd.prog 13 #[.float .f64 b, .float .f64 c] w fun e w' => e = .returned (.int .i64 Y) ∧ w = w'))
    (C3 : Hid (∀ w, Calls Tryd.prog 13 #[.float .f64 a, .float .f64 c] w fun e w' => e = .returned (.int .i64 Z) ∧ w = w'))
    (C4 : Hid (∀ w, Calls Tryd.prog 13 #[.float .f64 b, .float .f64 a] w fun e w' => e = .returned (.int .i64 (-X)) ∧ w = w'))
    (hA : (FloatKind.f64.format.order a b == some .lt) = A) (hB : (FloatKind.f64.format.order a b == some .gt) = B)
    (N1 : Hid (∀ w, Calls Tryd.prog 15 #[.float .f64 a] w fun e w' => e = .returned (.float .f64 x) ∧ w = w'))
    (N2 : Hid (∀ w, Calls Tryd.prog 15 #[.float .f64 b] w fun e w' => e = .returned (.float .f64 y) ∧ w = w'))
    (K1 : Hid (∀ w, Calls Tryd.prog 11 #[.float .f64 a] w fun e w' => e = .returned (.int .u64 ka) ∧ w = w'))
    (K2 : Hid (∀ w, Calls Tryd.prog 11 #[.float .f64 b] w fun e w' => e = .returned (.int .u64 kb) ∧ w = w'))
    (hS : ((x : Int) == (y : Int)) = S) (hK : ((ka : Int) == (kb : Int)) = S) :
    Calls Tryd.prog 6 #[.float .f64 a, .float .f64 b, .float .f64 c] w fun e w' => e = .returned (.bool true) ∧ Below w.heap.size w w' := by
  have h14 := fb14
  unfold Fits at hF
  rcases hF with ⟨rfl, rfl, rfl, ⟨rfl, rfl⟩ | ⟨rfl, rfl⟩ | ⟨rfl, rfl | rfl | rfl⟩⟩ | ⟨rfl, rfl, rfl, rfl, ⟨rfl, rfl⟩ | ⟨rfl, rfl⟩ | ⟨rfl, rfl⟩⟩ | ⟨rfl, rfl, rfl, ⟨rfl, rfl | rfl | rfl⟩ | ⟨rfl, rfl⟩ | ⟨rfl, rfl⟩⟩
  all_goals (try cases A)
  all_goals (try cases B)
  all_goals
    go_enter Tryd.func6, Tryd.ntmps6
    go_wp2_with fail
    refine (awake_any _ HE.out).mono ?_
    rintro e w1 ⟨rfl, hb1⟩
    go_wp2_with fail
    refine (C1.out _).mono ?_
    rintro e w' ⟨rfl, rfl⟩
    go_wp2_with fail
    refine (C2.out _).mono ?_
    rintro e w' ⟨rfl, rfl⟩
    go_wp2_with fail
    refine (C3.out _).mono ?_
    rintro e w' ⟨rfl, rfl⟩
    go_wp2_with fail
    refine (C4.out _).mono ?_
    rintro e w' ⟨rfl, rfl⟩
    go_wp2_with fail
    refine (N1.out _).mono ?_
    rintro e w' ⟨rfl, rfl⟩
    go_wp2_with fail
    refine (N2.out _).mono ?_
    rintro e w' ⟨rfl, rfl⟩
    go_wp2_with fail
    refine (K1.out _).mono ?_
    rintro e w' ⟨rfl, rfl⟩
    go_wp2_with fail
    refine (K2.out _).mono ?_
    rintro e w' ⟨rfl, rfl⟩
    go_wp2
    go_ret
    exact ⟨rfl, hb1⟩
theorem total_law (a b c : Nat) (ha : a < 18446744073709551616) (hb : b < 18446744073709551616) (hc : c < 18446744073709551616) (w : World) (hE : Env w) :
    Calls Tryd.prog 6 #[.float .f64 a, .float .f64 b, .float .f64 c] w fun e w' => e = .returned (.bool true) ∧ Below w.heap.size w w' := by
  refine total_aux a b c _ _ _ (canonB a) (canonB b) (keyN a) (keyN b) _ _ _ (fits (c := c) ha hb) w (Lib.hid hE) (Lib.hid (compare_any a b ha hb)) (Lib.hid (compare_any b c hb hc)) (Lib.hid (compare_any a c ha hc)) ?_ rfl rfl
    (Lib.hid (canon_any a)) (Lib.hid (canon_any b)) (Lib.hid (key_any a ha)) (Lib.hid (key_any b hb)) ?_ ?_
  · rw [← cmpN_swap]; exact Lib.hid (compare_any b a hb ha)
  · rw [Bool.eq_iff_iff]; simp only [beq_iff_eq]
    constructor
    · intro h; have h' : canonB a = canonB b := by omega
      unfold keyN; rw [h']
    · intro h; have := keyX_inj (canonB_lt ha) (canonB_lt hb) h; omega
  · rw [Bool.eq_iff_iff]; simp only [beq_iff_eq]; omega
end Go.Proofs.YtgppadnbfggkcaaDoor
