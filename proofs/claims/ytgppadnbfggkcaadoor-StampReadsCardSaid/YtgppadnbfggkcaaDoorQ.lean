/- The walk of StampOrder. -/
import Derived.Test.YtgppadnbfggkcaaDoorH
namespace Go.Proofs.YtgppadnbfggkcaaDoor
open Go.RowKit

def beforeX (x y : Nat) : Bool := if topB x = true then (if topB y = true then decide (y < x) else true) else if topB y = true then false else decide (x < y)
theorem before_iff {x y : Nat} (hx : x < 18446744073709551616) (hy : y < 18446744073709551616) : beforeX x y = decide (keyX x < keyX y) := by
  unfold beforeX keyX
  cases h1 : topB x <;> cases h2 : topB y <;> unfold topB at h1 h2 <;> simp at h1 h2 <;> simp <;> omega

set_option maxRecDepth 100000 in
set_option maxHeartbeats 400000 in
theorem rbits_nan (b : Nat) (h : nanB b = true) (w : World) :
    Calls Tryd.prog 16 #[.float .f64 b] w fun e w' => e = .returned (.int .u64 (canonB b)) ∧ w = w' := by
  have e : canonB b = 9221120237041090560 := by unfold canonB; rw [if_pos h]
  rw [e]
  have h' : (FloatKind.f64.format.order b b != some .eq) = true := h
  clear e h
  go_enter Tryd.func16, Tryd.ntmps16
  go_wp2
  go_ret
  exact ⟨rfl, rfl⟩
set_option maxRecDepth 100000 in
set_option maxHeartbeats 400000 in
theorem rbits_num (b : Nat) (h : nanB b = false) (w : World) :
    Calls Tryd.prog 16 #[.float .f64 b] w fun e w' => e = .returned (.int .u64 (canonB b)) ∧ w = w' := by
  have e : canonB b = b := canonB_eq b h
  rw [e]
  have h' : (FloatKind.f64.format.order b b != some .eq) = false := h
  have h14 := fb14
  clear e h
  go_enter Tryd.func16, Tryd.ntmps16
  go_wp2
  go_ret
  exact ⟨rfl, rfl⟩
theorem rbits_any (b : Nat) (w : World) : Calls Tryd.prog 16 #[.float .f64 b] w fun e w' => e = .returned (.int .u64 (canonB b)) ∧ w = w' := by
  cases h : nanB b with
  | true => exact rbits_nan b h w
  | false => exact rbits_num b h w
theorem top_hd {x : Nat} {c : Bool} (h : topB x = c) : decide ((9223372036854775808 : Int) ≤ (x : Int)) = c := by
  rw [← h]; unfold topB; rw [Bool.eq_iff_iff]; simp; omega
set_option maxRecDepth 100000 in
set_option maxHeartbeats 400000 in
theorem rkey_1 (b x : Nat) (w : World) (H : Hid (Calls Tryd.prog 16 #[.float .f64 b] w fun e w' => e = .returned (.int .u64 x) ∧ w = w')) (hd : decide ((9223372036854775808 : Int) ≤ (x : Int)) = true) :
    Calls Tryd.prog 12 #[.float .f64 b] w fun e w' => e = .returned (.int .u64 (IntKind.u64.wrap (18446744073709551615 - (x : Int)))) ∧ w = w' := by
  go_enter Tryd.func12, Tryd.ntmps12
  go_wp2_with fail
  refine H.out.mono ?_
  rintro e w' ⟨rfl, rfl⟩
  go_wp2
  go_ret
  exact ⟨rfl, rfl⟩
set_option maxRecDepth 100000 in
set_option maxHeartbeats 400000 in
theorem rkey_2 (b x : Nat) (w : World) (H : Hid (Calls Tryd.prog 16 #[.float .f64 b] w fun e w' => e = .returned (.int .u64 x) ∧ w = w')) (hd : decide ((9223372036854775808 : Int) ≤ (x : Int)) = false) :
    Calls Tryd.prog 12 #[.float .f64 b] w fun e w' => e = .returned (.int .u64 (IntKind.u64.wrap ((x : Int) + 9223372036854775808))) ∧ w = w' := by
  go_enter Tryd.func12, Tryd.ntmps12
  go_wp2_with fail
  refine H.out.mono ?_
  rintro e w' ⟨rfl, rfl⟩
  go_wp2
  go_ret
  exact ⟨rfl, rfl⟩
theorem rkey_any (b : Nat) (hb : b < 18446744073709551616) (w : World) :
    Calls Tryd.prog 12 #[.float .f64 b] w fun e w' => e = .returned (.int .u64 (keyN b)) ∧ w = w' := by
  have hc := canonB_lt hb
  have H := Lib.hid (rbits_any b w)
  unfold keyN
  generalize canonB b = x at *
  cases ht : topB x with
  | true =>
    have e : keyX x = 18446744073709551615 - x := by unfold keyX; rw [if_pos ht]
    have h := rkey_1 b x w H (top_hd ht)
    have e2 : IntKind.u64.wrap (18446744073709551615 - (x : Int)) = ((keyX x : Nat) : Int) := by rw [e, IntKind.wrap_u64]; omega
    rw [e2] at h; exact h
  | false =>
    have e : keyX x = x + 9223372036854775808 := by unfold keyX; rw [if_neg (by rw [ht]; decide)]
    have h := rkey_2 b x w H (top_hd ht)
    have h1 : x < 9223372036854775808 := by unfold topB at ht; simpa using ht
    have e2 : IntKind.u64.wrap ((x : Int) + 9223372036854775808) = ((keyX x : Nat) : Int) := by rw [e, IntKind.wrap_u64]; omega
    rw [e2] at h; exact h
theorem before_aux (a b x y : Nat) (w : World) (H1 : Hid (∀ w, Calls Tryd.prog 16 #[.float .f64 a] w fun e w' => e = .returned (.int .u64 x) ∧ w = w'))
    (H2 : Hid (∀ w, Calls Tryd.prog 16 #[.float .f64 b] w fun e w' => e = .returned (.int .u64 y) ∧ w = w')) (r : Bool) (hr : beforeX x y = r) :
    Calls Tryd.prog 10 #[.float .f64 a, .float .f64 b] w fun e w' => e = .returned (.bool r) ∧ w = w' := by
  have hB : beforeX x y = if topB x = true then (if topB y = true then decide (y < x) else true) else if topB y = true then false else decide (x < y) := rfl
  rw [hr] at hB
  cases h1 : topB x <;> cases h2 : topB y <;> rw [h1, h2] at hB
  all_goals
    have d1 := top_hd h1
    have d2 := top_hd h2
    simp only [if_true, Bool.false_eq_true, if_false] at hB
    clear h1 h2 hr
  · have HB := Lib.hid hB
    clear hB
    · go_enter Tryd.func10, Tryd.ntmps10
      go_wp2_with fail
      refine (H1.out _).mono ?_
      rintro e w' ⟨rfl, rfl⟩
      go_wp2_with fail
      refine (H2.out _).mono ?_
      rintro e w' ⟨rfl, rfl⟩
      go_wp2
      go_ret
      exact ⟨by rw [HB.out]; rfl, rfl⟩
  · subst hB
    go_enter Tryd.func10, Tryd.ntmps10
    go_wp2_with fail
    refine (H1.out _).mono ?_
    rintro e w' ⟨rfl, rfl⟩
    go_wp2_with fail
    refine (H2.out _).mono ?_
    rintro e w' ⟨rfl, rfl⟩
    go_wp2
    go_ret
    exact ⟨rfl, rfl⟩
  · subst hB
    go_enter Tryd.func10, Tryd.ntmps10
    go_wp2_with fail
    refine (H1.out _).mono ?_
    rintro e w' ⟨rfl, rfl⟩
    go_wp2_with fail
    refine (H2.out _).mono ?_
    rintro e w' ⟨rfl, rfl⟩
    go_wp2
    go_ret
    exact ⟨rfl, rfl⟩
  · have HB := Lib.hid hB
    clear hB
    · go_enter Tryd.func10, Tryd.ntmps10
      go_wp2_with fail
      refine (H1.out _).mono ?_
      rintro e w' ⟨rfl, rfl⟩
      go_wp2_with fail
      refine (H2.out _).mono ?_
      rintro e w' ⟨rfl, rfl⟩
      go_wp2
      go_ret
      exact ⟨by rw [HB.out]; rfl, rfl⟩
theorem before_any (a b : Nat) (w : World) :
    Calls Tryd.prog 10 #[.float .f64 a, .float .f64 b] w fun e w' => e = .returned (.bool (beforeX (canonB a) (canonB b))) ∧ w = w' :=
  before_aux a b _ _ w (Lib.hid (rbits_any a)) (Lib.hid (rbits_any b)) _ rfl
theorem order_law (a b : Nat) (ha : a < 18446744073709551616) (hb : b < 18446744073709551616) (w : World) (hE : Env w) :
    Calls Tryd.prog 3 #[.float .f64 a, .float .f64 b] w fun e w' => e = .returned (.bool true) ∧ Below w.heap.size w w' := by
  have B1 := Lib.hid (before_any a b)
  have B2 := Lib.hid (before_any b a)
  have K1 := Lib.hid (key_any a ha)
  have K2 := Lib.hid (rkey_any a ha)
  have C := Lib.hid (compare_any a b ha hb)
  have N := Lib.hid (canon_any a)
  have R := Lib.hid (rbits_any a)
  have HE := Lib.hid hE
  have hk : keyN a < keyN b ∨ keyN b < keyN a ∨ keyN a = keyN b := by omega
  have e1 := before_iff (canonB_lt ha) (canonB_lt hb)
  have e2 := before_iff (canonB_lt hb) (canonB_lt ha)
  rw [e1] at B1
  rw [e2] at B2
  have e3 : keyX (canonB a) = keyN a := rfl
  have e4 : keyX (canonB b) = keyN b := rfl
  rw [e3, e4] at B1 B2
  have h14 := fb14
  clear e1 e2 e3 e4 ha hb hE
  unfold cmpN at C
  generalize keyN a = x at *
  generalize keyN b = y at *
  generalize canonB a = z at *
  rcases hk with hk | hk | hk
  · rw [show decide (x < y) = true by simpa using hk] at B1
    rw [show decide (y < x) = false by simp; omega] at B2
    rw [if_pos hk] at C
    clear hk
    go_enter Tryd.func3, Tryd.ntmps3
    go_wp2_with fail
    refine (awake_any _ HE.out).mono ?_
    rintro e w1 ⟨rfl, hb1⟩
    go_wp2_with fail
    refine (B1.out _).mono ?_
    rintro e w' ⟨rfl, rfl⟩
    go_wp2_with fail
    refine (B2.out _).mono ?_
    rintro e w' ⟨rfl, rfl⟩
    go_wp2_with fail
    refine (K1.out _).mono ?_
    rintro e w' ⟨rfl, rfl⟩
    go_wp2_with fail
    refine (K2.out _).mono ?_
    rintro e w' ⟨rfl, rfl⟩
    go_wp2_with fail
    refine (C.out _).mono ?_
    rintro e w' ⟨rfl, rfl⟩
    go_wp2_with fail
    refine (N.out _).mono ?_
    rintro e w' ⟨rfl, rfl⟩
    go_wp2_with fail
    refine (R.out _).mono ?_
    rintro e w' ⟨rfl, rfl⟩
    go_wp2
    go_ret
    exact ⟨rfl, hb1⟩
  · rw [show decide (x < y) = false by simp; omega] at B1
    rw [show decide (y < x) = true by simpa using hk] at B2
    rw [if_neg (by omega), if_pos hk] at C
    clear hk
    go_enter Tryd.func3, Tryd.ntmps3
    go_wp2_with fail
    refine (awake_any _ HE.out).mono ?_
    rintro e w1 ⟨rfl, hb1⟩
    go_wp2_with fail
    refine (B1.out _).mono ?_
    rintro e w' ⟨rfl, rfl⟩
    go_wp2_with fail
    refine (B2.out _).mono ?_
    rintro e w' ⟨rfl, rfl⟩
    go_wp2_with fail
    refine (K1.out _).mono ?_
    rintro e w' ⟨rfl, rfl⟩
    go_wp2_with fail
    refine (K2.out _).mono ?_
    rintro e w' ⟨rfl, rfl⟩
    go_wp2_with fail
    refine (C.out _).mono ?_
    rintro e w' ⟨rfl, rfl⟩
    go_wp2_with fail
    refine (N.out _).mono ?_
    rintro e w' ⟨rfl, rfl⟩
    go_wp2_with fail
    refine (R.out _).mono ?_
    rintro e w' ⟨rfl, rfl⟩
    go_wp2
    go_ret
    exact ⟨rfl, hb1⟩
  · rw [show decide (x < y) = false by simp; omega] at B1
    rw [show decide (y < x) = false by simp; omega] at B2
    rw [if_neg (by omega), if_neg (by omega)] at C
    clear hk
    go_enter Tryd.func3, Tryd.ntmps3
    go_wp2_with fail
    refine (awake_any _ HE.out).mono ?_
    rintro e w1 ⟨rfl, hb1⟩
    go_wp2_with fail
    refine (B1.out _).mono ?_
    rintro e w' ⟨rfl, rfl⟩
    go_wp2_with fail
    refine (B2.out _).mono ?_
    rintro e w' ⟨rfl, rfl⟩
    go_wp2_with fail
    refine (K1.out _).mono ?_
    rintro e w' ⟨rfl, rfl⟩
    go_wp2_with fail
    refine (K2.out _).mono ?_
    rintro e w' ⟨rfl, rfl⟩
    go_wp2_with fail
    refine (C.out _).mono ?_
    rintro e w' ⟨rfl, rfl⟩
    go_wp2_with fail
    refine (N.out _).mono ?_
    rintro e w' ⟨rfl, rfl⟩
    go_wp2_with fail
    refine (R.out _).mono ?_
    rintro e w' ⟨rfl, rfl⟩
    go_wp2
    go_ret
    exact ⟨rfl, hb1⟩
end Go.Proofs.YtgppadnbfggkcaaDoor
