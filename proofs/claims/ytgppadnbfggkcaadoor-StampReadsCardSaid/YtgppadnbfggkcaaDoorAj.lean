/- The walk of StampReads. -/
import Derived.Test.YtgppadnbfggkcaaDoorH
import Derived.Test.YtgppadnbfggkcaaDoorY
import Derived.Test.YtgppadnbfggkcaaDoorAi
namespace Go.Proofs.YtgppadnbfggkcaaDoor
open Go.RowKit

theorem rparse_like (s : ByteArray) (hs : s.size ≤ 281474976710656) (w : World) :
    Calls Tryd.prog 18 #[.string s] w fun e w' => e = .returned (.tuple #[.float .f64 (parseBits s.data.toList), .int .i64 (parseCode s.data.toList)]) ∧ w = w' := by
  have h := rparse_any s hs w
  rw [refP_eq] at h
  unfold parseBits parseCode
  cases hr : readB s.data.toList with
  | none => rw [hr] at h; exact h
  | some c => rw [hr] at h; exact h
set_option maxRecDepth 100000 in
set_option maxHeartbeats 800000 in
theorem reads_law (f : Nat) (s : ByteArray) (hf : f < 18446744073709551616) (hs : s.size ≤ 281474976710656) (w : World) (hE : Env w) :
    Calls Tryd.prog 4 #[.float .f64 f, .string s] w fun e w' => e = .returned (.bool true) ∧ Below w.heap.size w w' := by
  have HP := Lib.hid (print_any f hf)
  have HP2 := Lib.hid (rprint_any f hf)
  have HQ := Lib.hid (fun w hE => parse_any s hs w hE)
  have HQ2 := Lib.hid (rparse_like s hs)
  have HE := Lib.hid hE
  have h14 := fb14
  clear hE hs hf
  generalize printB f = pf at *
  generalize parseBits s.data.toList = x at *
  generalize parseCode s.data.toList = y at *
  go_enter Tryd.func4, Tryd.ntmps4
  go_wp2_with fail
  refine (awake_any _ HE.out).mono ?_
  rintro e w1 ⟨rfl, hb1⟩
  go_wp2_with fail
  have HE1 := Lib.hid (HE.out.below HE.out.big hb1)
  refine (HQ.out _ HE1.out).mono ?_
  rintro e w2 ⟨rfl, hb2⟩
  go_wp2_with fail
  have HE2 := Lib.hid (HE1.out.below HE1.out.big hb2)
  refine (HQ2.out _).mono ?_
  rintro e w' ⟨rfl, rfl⟩
  go_wp2_with fail
  refine (HP.out _ HE2.out).mono ?_
  rintro e w3 ⟨rfl, hb3⟩
  go_wp2_with fail
  refine (HP2.out _).mono ?_
  rintro e w' ⟨rfl, rfl⟩
  go_wp2
  go_ret
  have b2 := hb1.trans (hb2.mono hb1.size)
  exact ⟨rfl, b2.trans (hb3.mono b2.size)⟩
end Go.Proofs.YtgppadnbfggkcaaDoor
