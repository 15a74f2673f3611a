/- The walks of alike, rank, Compare, Under, Parent. -/
import Derived.Test.YthigepjddfdbmaaDoorBase
import Derived.Test.YthigepjddfdbmaaDoorPathC
import Derived.Test.YthigepjddfdbmaaDoorShelf
import Derived.Deep.QuietTactic
import Derived.BigQuiet
namespace Go.Proofs.YthigepjddfdbmaaDoor
open Go.RowKit Go.Lib

theorem at_size (s : List UInt8) : (⟨s.toArray⟩ : ByteArray).size = s.length := by simp [ByteArray.size]
theorem str_at (w : World) (s : List UInt8) (i : Nat) (hi : i < s.length) : (Instr.index 9 (.string ⟨s.toArray⟩) (.int .i64 (i : Int))).run Tryd.prog w = .ok (.int .u8 ((s.getD i 0).toNat : Nat)) w := by
  have hs : i < (⟨s.toArray⟩ : ByteArray).size := by rw [at_size]; exact hi
  rw [run_index_string _ _ _ _ _ (by kernel_rfl), dif_pos (by omega)]
  have e : (i : Int).toNat = i := by omega
  simp only [e]
  have e2 : (⟨s.toArray⟩ : ByteArray)[i] = s[i] := rfl
  rw [e2, show s.getD i 0 = s[i] by simp [List.getD, List.getElem?_eq_getElem hi]]
theorem drewn (B : Nat) (w : World) (n : Nat) : Below B w (w.drewN n) := ⟨rfl, rfl, rfl, Nat.le_refl _, fun _ _ => rfl⟩
theorem quiet_l {P : Program} {f : FuncId} {args : Array Value} {w : World} {n : Nat} {v : Value}
    (h : Calls P f args (w.drewN n) fun e w' => e = .returned v ∧ w.drewN n = w') : Calls P f args (w.drewN n) fun e w'' => e = .returned v ∧ ∃ m, w'' = w.drewN m :=
  h.mono fun _ _ ⟨he, hm⟩ => ⟨he, n, hm.symm⟩
theorem quiet_d {P : Program} {f : FuncId} {args : Array Value} {w : World} {n : Nat} {v : Value}
    (h : Calls P f args (w.drewN n) fun e w' => e = .returned v ∧ ∃ m, w' = (w.drewN n).drewN m) : Calls P f args (w.drewN n) fun e w'' => e = .returned v ∧ ∃ m, w'' = w.drewN m :=
  h.mono fun _ _ ⟨he, m, hm⟩ => ⟨he, n + m, by rw [hm, World.drewN_drewN]⟩
theorem compareInt_sgn (x y : Int) : Lib.compareInt x y = sgn x y := by
  unfold Lib.compareInt sgn; split <;> simp_all
end Go.Proofs.YthigepjddfdbmaaDoor
