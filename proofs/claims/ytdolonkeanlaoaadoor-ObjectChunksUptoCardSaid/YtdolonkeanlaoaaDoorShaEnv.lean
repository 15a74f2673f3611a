/- From the rows' condition to what the walks ask of the world; the world in which the program has begun. -/
import Derived.Test.YtdolonkeanlaoaaDoorShaHK
import Derived.ProofKit
import Derived.LaidMore
import Derived.OpenShut
import Derived.Stop.Joined
import Derived.Stop.LaidErr
import Derived.Lib.LaidTab
namespace Go.Proofs.YtdolonkeanlaoaaDoor
open Go.ChangeShapes Go.WideShapes Go.ChangeAt Go.WideMaps Go.WideElems Go.RowKit Go.Stop

theorem own : ownKnob Tryd.prog.godebug = none := by kernel_rfl
theorem laidOut : laidOutB Tryd.prog = true := by kernel_rfl
def laidAll : List (String × DataW Unit) := [("towline/sha.first", Rows.laid_towline_sha_first), ("towline/sha.rounds", Rows.laid_towline_sha_rounds)]
theorem dfirst : (Rows.laid_towline_sha_first : DataW Unit) = Lib.tabData .u32 (startL.map fun n : Nat => (n : Int)) := by kernel_rfl
theorem drounds : (Rows.laid_towline_sha_rounds : DataW Unit) = Lib.tabData .u32 (partsL.map fun n : Nat => (n : Int)) := by kernel_rfl
theorem env_of_laid {W : World} (h0 : laidMetH Tryd.prog laidAll W) : Env W := by
  have h1 : laidMet Tryd.prog laidAll W := by
    rw [MakeChecks.laidMetH_plain _ _ _ (by kernel_rfl)] at h0; exact h0
  unfold laidAll at h1
  have t1 := h1.tail
  rw [dfirst] at h1
  rw [drounds] at t1
  have f0 := Lib.tabIs_of_head (g := 0) (t := 92) (e := 91) (n := 8) (by kernel_rfl) (by kernel_rfl) Tryd.underlying92 Tryd.underlying91 (by kernel_rfl) (by kernel_rfl) h1
  have f1 := Lib.tabIs_of_head (g := 1) (t := 111) (e := 91) (n := 64) (by kernel_rfl) (by kernel_rfl) Tryd.underlying111 Tryd.underlying91 (by kernel_rfl) (by kernel_rfl) t1
  have c1 := f1.cell (g := 1) (by kernel_rfl) 0 (by decide)
  refine ⟨fun j hj => ?_, fun j hj => ?_, ?_⟩
  · have := f0.cell (g := 0) (by kernel_rfl) j (by rw [List.length_map]; exact hj)
    rw [this]
    simp [List.getD, List.getElem?_map]
    have hl : j < startL.length := hj
    rw [List.getElem?_eq_getElem hl]; simp
  · have := f1.cell (g := 1) (by kernel_rfl) j (by rw [List.length_map]; exact hj)
    rw [this]
    simp [List.getD, List.getElem?_map]
    have hl : j < partsL.length := hj
    rw [List.getElem?_eq_getElem hl]; simp
  · exact World.block_lt_of_cell? _ _ c1
theorem door_met (os : Os) (args : Array Value) : laidMetH Tryd.prog laidAll ((World.doorLaid Tryd.prog 400 os).forCall (fun _ _ => 0) ⟨#[], args, []⟩).memory :=
  laidMetH_of_parts3 (fuel := 8) (laidMet_of_run' 8 (by kernel_rfl) (by kernel_rfl)) (by kernel_rfl) (by kernel_rfl)
end Go.Proofs.YtdolonkeanlaoaaDoor
