/- Contracts: awake. -/
import Derived.Test.YtgppadnbfggkcaaDoorG
namespace Go.Proofs.YtgppadnbfggkcaaDoor
open Go.RowKit Go.Shelf Go.Sort Go.Lib

theorem plain_half : plainB 4602678819172646912 = [49, 112, 45, 49] := by
  have e1 : oddB 4602678819172646912 = 1 := by decide +kernel
  have e2 : powB 4602678819172646912 = -1 := by decide +kernel
  unfold plainB; rw [if_neg (by omega), e1, e2, show (-1 : Int) = -((1 : Nat) : Int) from rfl, Lib.itoa_neg 1 (by omega), Lib.decDigits_one (by omega)]; rfl
theorem print_half : printB 4602678819172646912 = [49, 112, 45, 49] := by
  have e1 : nanB 4602678819172646912 = false := by decide +kernel
  have e2 : infB 4602678819172646912 = false := by decide +kernel
  have e3 : infB (negB 4602678819172646912) = false := by decide +kernel
  have e4 : topB 4602678819172646912 = false := by decide +kernel
  unfold printB; rw [e1, e2, e3, e4]; exact plain_half
theorem parse_half : readB [49, 112, 45, 49] = some 4602678819172646912 := by
  have e : readPlainB (Lib.trimPrefix [49, 112, 45, 49] [45]) = some 4602678819172646912 := by decide +kernel
  have e1 : Lib.hasPrefix [49, 112, 45, 49] [45] = false := by decide +kernel
  have e2 : canonB 4602678819172646912 = 4602678819172646912 := by decide +kernel
  unfold readB; rw [e, e1]
  simp [print_half, e2]
theorem parse_two : readB [50, 112, 45, 50] = none := by
  have e : readPlainB (Lib.trimPrefix [50, 112, 45, 50] [45]) = some 4602678819172646912 := by decide +kernel
  have e1 : Lib.hasPrefix [50, 112, 45, 50] [45] = false := by decide +kernel
  unfold readB; rw [e, e1]
  simp [print_half]
theorem key_zero : keyN 0 = 9223372036854775808 := by decide +kernel
theorem cmp_ones : cmpN (keyN 13830554455654793216) (keyN 4607182418800017408) = -1 := by decide +kernel
theorem c_parse_half (w : World) (hE : Env w) :
    Calls Tryd.prog 17 #[.string ⟨#[49, 112, 45, 49]⟩] w fun e w' => e = .returned (.tuple #[.float .f64 4602678819172646912, .int .i64 0]) ∧ Below w.heap.size w w' := by
  have h := parse_fit ⟨#[49, 112, 45, 49]⟩ (by decide) 4602678819172646912 parse_half w hE
  exact h
theorem c_parse_two (w : World) (hE : Env w) :
    Calls Tryd.prog 17 #[.string ⟨#[50, 112, 45, 50]⟩] w fun e w' => e = .returned (.tuple #[.float .f64 0, .int .i64 10]) ∧ Below w.heap.size w w' := by
  exact parse_bad ⟨#[50, 112, 45, 50]⟩ (by decide) parse_two w hE
theorem c_print_half (w : World) (hE : Env w) :
    Calls Tryd.prog 19 #[.float .f64 4602678819172646912] w fun e w' => e = .returned (.string ⟨#[49, 112, 45, 49]⟩) ∧ Below w.heap.size w w' := by
  have h := print_any 4602678819172646912 (by omega) w hE
  rw [print_half] at h
  exact h
theorem c_key_zero (w : World) : Calls Tryd.prog 11 #[.float .f64 0] w fun e w' => e = .returned (.int .u64 9223372036854775808) ∧ w = w' := by
  have h := key_any 0 (by omega) w
  rw [key_zero] at h
  exact h
theorem c_cmp_ones (w : World) : Calls Tryd.prog 13 #[.float .f64 13830554455654793216, .float .f64 4607182418800017408] w fun e w' => e = .returned (.int .i64 (-1)) ∧ w = w' := by
  have h := compare_any 13830554455654793216 4607182418800017408 (by omega) (by omega) w
  rw [cmp_ones] at h
  exact h
theorem order_half : (FloatKind.f64.format.order 4602678819172646912 4602678819172646912 == some .eq) = true := by decide +kernel
set_option maxRecDepth 100000 in
set_option maxHeartbeats 400000 in
theorem awake_any (w : World) (hE : Env w) :
    Calls Tryd.prog 9 #[] w fun e w' => e = .returned (.bool true) ∧ Below w.heap.size w w' := by
  have ho := order_half
  have HE := Lib.hid hE
  clear hE
  go_enter Tryd.func9, Tryd.ntmps9
  go_wp2_with fail
  refine (c_parse_half _ HE.out).mono ?_
  rintro e w1 ⟨rfl, hb1⟩
  go_wp2_with fail
  have HE1 := Lib.hid (HE.out.below HE.out.big hb1)
  refine (c_parse_two _ HE1.out).mono ?_
  rintro e w2 ⟨rfl, hb2⟩
  have HE2 := Lib.hid (HE1.out.below HE1.out.big hb2)
  go_wp2_with fail
  refine (c_print_half _ HE2.out).mono ?_
  rintro e w3 ⟨rfl, hb3⟩
  go_wp2_with fail
  refine (c_key_zero _).mono ?_
  rintro e w' ⟨rfl, rfl⟩
  go_wp2_with fail
  refine (c_cmp_ones _).mono ?_
  rintro e w' ⟨rfl, rfl⟩
  go_wp2
  go_ret
  have b2 := hb1.trans (hb2.mono hb1.size)
  exact ⟨rfl, b2.trans (hb3.mono b2.size)⟩
end Go.Proofs.YtgppadnbfggkcaaDoor
