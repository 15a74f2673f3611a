/- The walk of the reference's bits. -/
import Derived.Test.YtgppadnbfggkcaaDoorAb
namespace Go.Proofs.YtgppadnbfggkcaaDoor
open Go.RowKit

set_option maxRecDepth 100000 in
set_option maxHeartbeats 400000 in
theorem rword_even (m : Nat) (p : Int) (h : m % 2 = 0) (w : World) :
    Calls Tryd.prog 31 #[.int .u64 m, .int .i64 p] w fun e w' => DigGives none e ∧ w = w' := by
  go_enter Tryd.func31, Tryd.ntmps31
  go_wp2_with fail
  go_ret2
  exact ⟨rfl, rfl⟩
set_option maxRecDepth 100000 in
set_option maxHeartbeats 400000 in
theorem rword_big (m : Nat) (p : Int) (h : m % 2 = 1) (hd : decide ((9007199254740992 : Int) ≤ (m : Int)) = true) (w : World) :
    Calls Tryd.prog 31 #[.int .u64 m, .int .i64 p] w fun e w' => DigGives none e ∧ w = w' := by
  go_enter Tryd.func31, Tryd.ntmps31
  go_wp2_with fail
  go_ret2
  exact ⟨rfl, rfl⟩
set_option maxRecDepth 100000 in
set_option maxHeartbeats 400000 in
theorem rword_low (m : Nat) (p : Int) (h : m % 2 = 1) (hd : decide ((9007199254740992 : Int) ≤ (m : Int)) = false) (h3 : p < -1074) (w : World) :
    Calls Tryd.prog 31 #[.int .u64 m, .int .i64 p] w fun e w' => DigGives none e ∧ w = w' := by
  go_enter Tryd.func31, Tryd.ntmps31
  go_wp2_with fail
  go_ret2
  exact ⟨rfl, rfl⟩
set_option maxRecDepth 100000 in
set_option maxHeartbeats 400000 in
theorem rword_high (m : Nat) (p : Int) (h : m % 2 = 1) (hd : decide ((9007199254740992 : Int) ≤ (m : Int)) = false) (h3 : -1074 ≤ p) (h4 : 1023 < p) (w : World) :
    Calls Tryd.prog 31 #[.int .u64 m, .int .i64 p] w fun e w' => DigGives none e ∧ w = w' := by
  go_enter Tryd.func31, Tryd.ntmps31
  go_wp2_with fail
  go_ret2
  exact ⟨rfl, rfl⟩
theorem shift_end {M E : Nat} (h : 4503599627370496 ≤ M ∨ E = 0) : shiftB M E = (M, E) := by
  rcases h with h | rfl
  · cases E with
    | zero => rfl
    | succ E => simp only [shiftB]; rw [if_neg (by omega)]
  · rfl
theorem shift_step {M E : Nat} (h : M < 4503599627370496) (h2 : 0 < E) : shiftB M E = shiftB (2 * M) (E - 1) := by
  cases E with
  | zero => omega
  | succ E => simp only [shiftB]; rw [if_pos h]; rfl
set_option maxRecDepth 100000 in
set_option maxHeartbeats 1000000 in
theorem rword_run (m : Nat) (p : Int) (h : m % 2 = 1) (H2 : Hid (m < 9007199254740992)) (hd : decide ((9007199254740992 : Int) ≤ (m : Int)) = false) (h3 : -1074 ≤ p) (h4 : p ≤ 1023) (w : World) :
    Calls Tryd.prog 31 #[.int .u64 m, .int .i64 p] w fun e w' => DigGives (refBits m p) e ∧ w = w' := by
  have HR : Hid (refBits m p = if (shiftB m (p + 1074).toNat).1 < 4503599627370496 then some (shiftB m (p + 1074).toNat).1
      else if 2046 < (shiftB m (p + 1074).toNat).2 + 1 then none
      else some ((shiftB m (p + 1074).toNat).1 - 4503599627370496 + ((shiftB m (p + 1074).toNat).2 + 1) * 4503599627370496)) := Lib.hid (by unfold refBits; have := H2.out; rw [if_neg (by omega)])
  generalize hx : refBits m p = x at *
  clear hx
  go_enter Tryd.func31, Tryd.ntmps31
  go_wp2_with fail
  · exfalso; rename_i q1 q2; simp only [beq_iff_eq] at q2; omega
  go_loop [0, 6] (fun n i => ∃ (M E : Nat), Hid (M < 9007199254740992) ∧ E ≤ 2097 ∧ n = .int .u64 M ∧ i = .int .i64 E ∧ shiftB M E = shiftB m (p + 1074).toNat) (fun _ i => (intOf i).toNat)
  case atStart => exact ⟨m, (p + 1074).toNat, H2, by omega, rfl, by go_num, rfl⟩
  case round =>
    obtain ⟨M, E, hM, hE, rfl, rfl, hd⟩ := hrel
    have HD := Lib.hid hd
    clear hd
    by_cases hlt : M < 4503599627370496
    · have hdm : decide ((M : Int) < 4503599627370496) = true := by simp; omega
      have HL := Lib.hid hlt
      by_cases hE0 : 0 < E
      · have HS := Lib.hid (shift_step hlt hE0)
        clear hlt
        go_wp2_with fail
        refine ⟨⟨2 * M, E - 1, Lib.hid (by have := HL.out; omega), by omega, congrArg (Value.int IntKind.u64) (by have := HL.out; rw [IntKind.wrap_u64]; omega), by go_num, by rw [← HD.out, HS.out]⟩, by simp [intOf]; omega⟩
      · have HS := Lib.hid (shift_end (M := M) (E := E) (Or.inr (by omega)))
        clear hlt
        go_wp2_with fail
        go_ret2
        refine ⟨?_, rfl⟩
        rw [HR.out, ← HD.out, HS.out, if_pos HL.out]; rfl
    · have hdm : decide ((M : Int) < 4503599627370496) = false := by simp; omega
      have HL := Lib.hid hlt
      have HS := Lib.hid (shift_end (M := M) (E := E) (Or.inl (by omega)))
      clear hlt
      by_cases hE2 : 2046 < E + 1
      · have hdE : decide ((2046 : Int) < (E : Int) + 1) = true := by simp; omega
        have HE2 := Lib.hid hE2
        clear hE2
        go_wp2_with fail
        go_ret2
        refine ⟨?_, rfl⟩
        rw [HR.out, ← HD.out, HS.out, if_neg HL.out, if_pos HE2.out]; rfl
      · have hdE : decide ((2046 : Int) < (E : Int) + 1) = false := by simp; omega
        have HE2 := Lib.hid hE2
        have HW := Lib.hid (show IntKind.u64.wrap (IntKind.u64.wrap ((M : Int) - 4503599627370496) + ((E : Int) + 1) * 4503599627370496) = ((M - 4503599627370496 + (E + 1) * 4503599627370496 : Nat) : Int) by
          have h5 := hM.out
          have h6 := HL.out
          rw [IntKind.wrap_u64, IntKind.wrap_u64]; omega)
        clear hE2
        go_wp2_with fail
        go_ret2
        refine ⟨?_, rfl⟩
        rw [HR.out, ← HD.out, HS.out, if_neg HL.out, if_neg HE2.out]
        show Ending.returned (.tuple #[.int .u64 (IntKind.u64.wrap (IntKind.u64.wrap ((M : Int) - 4503599627370496) + ((E : Int) + 1) * 4503599627370496)), .bool true]) = _
        rw [HW.out]
theorem rword_any (m : Nat) (p : Int) (w : World) :
    Calls Tryd.prog 31 #[.int .u64 m, .int .i64 p] w fun e w' => DigGives (refBits m p) e ∧ w = w' := by
  by_cases h1 : m % 2 = 0
  · have : refBits m p = none := by unfold refBits; rw [if_pos (by omega)]
    rw [this]; exact rword_even m p h1 w
  by_cases h2 : 9007199254740992 ≤ m
  · have : refBits m p = none := by unfold refBits; rw [if_pos (by omega)]
    rw [this]; exact rword_big m p (by omega) (by simp; omega) w
  by_cases h3 : p < -1074
  · have : refBits m p = none := by unfold refBits; rw [if_pos (by omega)]
    rw [this]; exact rword_low m p (by omega) (by simp; omega) h3 w
  by_cases h4 : 1023 < p
  · have : refBits m p = none := by unfold refBits; rw [if_pos (by omega)]
    rw [this]; exact rword_high m p (by omega) (by simp; omega) (by omega) h4 w
  exact rword_run m p (by omega) (Lib.hid (by omega)) (by simp; omega) (by omega) (by omega) w
end Go.Proofs.YtgppadnbfggkcaaDoor
