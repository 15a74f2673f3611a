/- How alike two lists are, as a word; the walks of score.Alike and of the reference's. -/
import Derived.Test.YtaajfekolokaoaaScA
import Derived.Test.YtaajfekolokaoaaScB
namespace Go.Proofs.Ytaajfekolokaoaa
open Go.RowKit

/-- One number divided by another one, in its one form. -/
def ratW (x y : Nat) : Nat := match Ieee.double.div (floatOfInt .f64 (x : Int)) (floatOfInt .f64 (y : Int)) with | some z => z | none => 9221120237041090560
def alN (a b : List (List UInt8)) : Nat := ratW (2 * lcs a b) (a.length + b.length)
theorem ratW_some {x y : Nat} (hx : x ≤ 9223372036854775807) (hy : y ≤ 9223372036854775807) (h : 0 < y) : ∃ z, Ieee.double.div (floatOfInt .f64 (x : Int)) (floatOfInt .f64 (y : Int)) = some z ∧ nanB z = false ∧ ratW x y = z := by
  obtain ⟨q, q0, q1, eq⟩ := float_int (y : Int) (by omega) (by omega) (by omega)
  unfold ratW
  by_cases h0 : x = 0
  · subst h0
    have e : floatOfInt .f64 ((0 : Nat) : Int) = 0 := float_zero
    rw [e, eq, zero_div q0 q1]
    exact ⟨_, rfl, wordS_num (by omega), rfl⟩
  · obtain ⟨r, r0, r1, er⟩ := float_int (x : Int) (by omega) (by omega) (by omega)
    obtain ⟨z, z0, z1, ez⟩ := div_some (s := decide ((x : Int) < 0)) (t := decide ((y : Int) < 0)) r0 r1 q0 q1
    rw [er, eq, ez]
    exact ⟨_, rfl, wordS_num (by omega), rfl⟩
theorem ratW_zero : ratW 0 0 = 9221120237041090560 := by decide
theorem ratio_any (x y : Nat) (hx : x ≤ 9223372036854775807) (hy : y ≤ 9223372036854775807) (h : y = 0 → x = 0) (w : World) :
    Calls Try.prog 22 #[.int .i64 (x : Int), .int .i64 (y : Int)] w fun e w' => e = .returned (.float .f64 (ratW x y)) ∧ Below w.heap.size w w' := by
  by_cases hy0 : y = 0
  · have hx0 := h hy0
    subst hy0; subst hx0
    rw [ratW_zero]
    exact ratio_none w
  · obtain ⟨z, e1, e2, e3⟩ := ratW_some hx hy (by omega)
    rw [e3]
    exact (ratio_some _ _ _ _ z rfl rfl e1 e2 w).mono fun e w' ⟨he, hw⟩ => ⟨he, hw ▸ Below.refl _ _⟩
theorem al_le (a b : List (List UInt8)) : lcs a b ≤ a.length := by have := lcs_drop_len a b 0 0; simpa using this

theorem alike_ok (S T : Nat → Prop) (va vb : Value) (a b : List (List UInt8)) (w : World) (hS : ∀ k, S k → k < w.heap.size) (hT : ∀ k, T k → k < w.heap.size) (ha : StrsC S w va a) (hb : StrsC T w vb b) (hal : a.length ≤ 4194304) (hbl : b.length ≤ 4194304) (hax : ∀ x ∈ a, x.length ≤ 4194304) (hbx : ∀ x ∈ b, x.length ≤ 4194304)
    (hm : a.length * b.length ≤ 1048576) :
    Calls Try.prog 9 #[va, vb] w fun e w' => e = .returned (.tuple #[.float .f64 (alN a b), .int .i64 0]) ∧ Below w.heap.size w w' := by
  have HP := Lib.hid (pairs_any S T va vb a b w hS hT ha hb hal hbl hax hbx hm)
  obtain ⟨aa, ac, rfl⟩ := ha.shape
  obtain ⟨ba, bc, rfl⟩ := hb.shape
  have hl := al_le a b
  have HL := Lib.hid (pairsN_len a b 0 0)
  have hz : a.length + b.length = 0 → 2 * lcs a b = 0 := by omega
  have HR := Lib.hid (ratio_any (2 * lcs a b) (a.length + b.length) (by omega) (by omega) hz)
  clear ha hb hS hT hax hbx hm hz
  unfold alN
  generalize pairsN a 0 b 0 = P at HP HL
  generalize lcs a b = m at *
  generalize a.length = n1 at *
  generalize b.length = n2 at *
  go_enter Try.func9, Try.ntmps9
  go_wp2_with fail
  refine (HP.out).mono ?_
  rintro e w1 ⟨v, rfl, hv, hb1⟩
  obtain ⟨pa, pc, rfl⟩ := ownP_slice hv
  have hPl := HL.out
  rw [hPl]
  clear hv
  have e1 : IntKind.i64.wrap (2 * (m : Int)) = ((2 * m : Nat) : Int) := by rw [IntWalk.i64_in _ (by omega)]; omega
  have e2 : IntKind.i64.wrap ((n1 : Int) + (n2 : Int)) = ((n1 + n2 : Nat) : Int) := by rw [IntWalk.i64_in _ (by omega)]; omega
  go_wp2_with fail
  refine (HR.out _).mono ?_
  rintro e w2 ⟨rfl, hb2⟩
  go_wp2
  go_ret2
  exact ⟨rfl, hb1.trans (hb2.mono hb1.size)⟩
theorem alike_long (S T : Nat → Prop) (va vb : Value) (a b : List (List UInt8)) (w : World) (ha : StrsC S w va a) (hb : StrsC T w vb b) (hal : a.length ≤ 4194304) (hbl : b.length ≤ 4194304) (hm : 1048576 < a.length * b.length) :
    Calls Try.prog 9 #[va, vb] w fun e w' => e = .returned (.tuple #[.float .f64 0, .int .i64 2]) ∧ w = w' := by
  have HP := Lib.hid (pairs_long S T va vb a b w ha hb hal hbl hm)
  obtain ⟨aa, ac, rfl⟩ := ha.shape
  obtain ⟨ba, bc, rfl⟩ := hb.shape
  clear ha hb hm
  generalize a.length = n1 at *
  generalize b.length = n2 at *
  go_enter Try.func9, Try.ntmps9
  go_wp2_with fail
  refine (HP.out).mono ?_
  rintro e w1 ⟨rfl, rfl⟩
  go_wp2
  go_ret2
  exact ⟨rfl, rfl⟩
theorem rcanon_any (b : Nat) (w : World) : Calls Try.prog 24 #[.float .f64 b] w fun e w' => e = .returned (.float .f64 (canonB b)) ∧ w = w' := by
  have HB := Lib.hid (rbits_any b)
  have h27 := fb27 (canonB b : Nat)
  go_enter Try.func24, Try.ntmps24
  go_wp2_with fail
  refine (HB.out _).mono ?_
  rintro e w' ⟨rfl, rfl⟩
  go_wp2
  go_ret
  exact ⟨rfl, rfl⟩
/-- The division itself: a number, or one that is none, of which the canonical form is asked. -/
theorem rquo_any (x y : Nat) (xi yi : Int) (hxi : xi = (x : Int)) (hyi : yi = (y : Int)) (hx : x ≤ 9223372036854775807) (hy : y ≤ 9223372036854775807) (h : y = 0 → x = 0) : ∃ W : World → Nat,
    ((∀ w, (binOp .quo 24 (.float .f64 (floatOfInt .f64 xi)) (.float .f64 (floatOfInt .f64 yi))).run Try.prog w = .ok (.float .f64 (W w)) w) ∧ Hid (∀ u w, Calls Try.prog 24 #[.float .f64 (W u)] w fun e w' => e = .returned (.float .f64 (ratW x y)) ∧ w = w')) ∨
    ((∀ w, (binOp .quo 24 (.float .f64 (floatOfInt .f64 xi)) (.float .f64 (floatOfInt .f64 yi))).run Try.prog w = .ok (.float .f64 (W w)) w.drew) ∧ Hid (∀ u w, Calls Try.prog 24 #[.float .f64 (W u)] w fun e w' => e = .returned (.float .f64 (ratW x y)) ∧ w = w')) := by
  subst hxi; subst hyi
  by_cases hy0 : y = 0
  · have hx0 := h hy0
    subst hy0; subst hx0
    refine ⟨fun w => Classical.choose (run_quo_none w), Or.inr ⟨fun w => ?_, Lib.hid fun u w => ?_⟩⟩
    · have e : floatOfInt .f64 ((0 : Nat) : Int) = 0 := float_zero
      rw [e]
      exact (Classical.choose_spec (run_quo_none w)).2
    · have hn := (Classical.choose_spec (run_quo_none u)).1
      have ec : canonB (Classical.choose (run_quo_none u)) = 9221120237041090560 := by unfold canonB; rw [if_pos hn]
      rw [ratW_zero, ← ec]
      exact rcanon_any _ w
  · obtain ⟨z, e1, e2, e3⟩ := ratW_some hx hy (by omega)
    refine ⟨fun _ => z, Or.inl ⟨fun w => run_quo e1 w, Lib.hid fun u w => ?_⟩⟩
    rw [e3, ← canonB_eq z e2]
    simp only [canonB_eq z e2]
    have := rcanon_any z w
    rwa [canonB_eq z e2] at this
theorem ralike_ok (S T : Nat → Prop) (va vb : Value) (a b : List (List UInt8)) (w : World) (hS : ∀ k, S k → k < w.heap.size) (hT : ∀ k, T k → k < w.heap.size) (ha : StrsC S w va a) (hb : StrsC T w vb b) (hal : a.length ≤ 4194304) (hbl : b.length ≤ 4194304)
    (hm : a.length * b.length ≤ 1048576) :
    Calls Try.prog 10 #[va, vb] w fun e w' => e = .returned (.tuple #[.float .f64 (alN a b), .int .i64 0]) ∧ Below w.heap.size w w' := by
  have HP := Lib.hid (rpairs_any S T va vb a b w hS hT ha hb hal hbl hm)
  obtain ⟨aa, ac, rfl⟩ := ha.shape
  obtain ⟨ba, bc, rfl⟩ := hb.shape
  have hl := al_le a b
  have HL := Lib.hid (pairsN_len a b 0 0)
  have hz : a.length + b.length = 0 → 2 * lcs a b = 0 := by omega
  obtain ⟨W, hW⟩ := rquo_any (2 * lcs a b) (a.length + b.length) (2 * (lcs a b : Int)) ((a.length : Int) + (b.length : Int)) (by omega) (by omega) (by omega) (by omega) hz
  clear ha hb hS hT hm hz
  unfold alN
  generalize pairsN a 0 b 0 = P at HP HL
  generalize lcs a b = m at *
  generalize a.length = n1 at *
  generalize b.length = n2 at *
  go_enter Try.func10, Try.ntmps10
  go_wp2_with fail
  refine (HP.out).mono ?_
  rintro e w1 ⟨v, rfl, hv, hb1⟩
  obtain ⟨pa, pc, rfl⟩ := ownK_slice hv
  have hPl := HL.out
  rw [hPl]
  clear hv
  have e1 : IntKind.i64.wrap (2 * (m : Int)) = ((2 * m : Nat) : Int) := by rw [IntWalk.i64_in _ (by omega)]; omega
  have e2 : IntKind.i64.wrap ((n1 : Int) + (n2 : Int)) = ((n1 + n2 : Nat) : Int) := by rw [IntWalk.i64_in _ (by omega)]; omega
  rcases hW with ⟨h1, h2⟩ | ⟨h1, h2⟩
  · go_wp2_with fail
    refine (h2.out _ _).mono ?_
    rintro e w2 ⟨rfl, rfl⟩
    go_wp2
    go_ret2
    exact ⟨rfl, hb1⟩
  · go_wp2_with fail
    refine (h2.out _ _).mono ?_
    rintro e w2 ⟨rfl, rfl⟩
    go_wp2
    go_ret2
    exact ⟨rfl, hb1.drew⟩
theorem ralike_long (S T : Nat → Prop) (va vb : Value) (a b : List (List UInt8)) (w : World) (ha : StrsC S w va a) (hb : StrsC T w vb b) (hal : a.length ≤ 4194304) (hbl : b.length ≤ 4194304) (hm : 1048576 < a.length * b.length) :
    Calls Try.prog 10 #[va, vb] w fun e w' => e = .returned (.tuple #[.float .f64 0, .int .i64 2]) ∧ w = w' := by
  have HP := Lib.hid (rpairs_long S T va vb a b w ha hb hal hbl hm)
  obtain ⟨aa, ac, rfl⟩ := ha.shape
  obtain ⟨ba, bc, rfl⟩ := hb.shape
  clear ha hb hm
  generalize a.length = n1 at *
  generalize b.length = n2 at *
  go_enter Try.func10, Try.ntmps10
  go_wp2_with fail
  refine (HP.out).mono ?_
  rintro e w1 ⟨rfl, rfl⟩
  go_wp2
  go_ret2
  exact ⟨rfl, rfl⟩
end Go.Proofs.Ytaajfekolokaoaa
