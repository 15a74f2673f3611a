/- From the rows' condition to what the walks ask of the world; the world in which the program has begun. -/
import Derived.Test.YtgppadnbfggkcaaDoorH
import Derived.ProofKit
import Derived.LaidMore
import Derived.OpenShut
import Derived.Stop.Joined
import Derived.Stop.LaidErr
import Derived.Lib.LaidTab
namespace Go.Proofs.YtgppadnbfggkcaaDoor
open Go.ChangeShapes Go.WideShapes Go.ChangeAt Go.WideMaps Go.WideElems Go.RowKit Go.Stop

theorem own : ownKnob Tryd.prog.godebug = none := by kernel_rfl
def laidAll : List (String × DataW Unit) := [("math/bits.deBruijn32tab", Rows.laid_math_bits_deBruijn32tab), ("math/bits.deBruijn64tab", Rows.laid_math_bits_deBruijn64tab), ("internal/strconv.uint64pow10", Rows.laid_internal_strconv_uint64pow10), ("strconv.ErrRange", Rows.laid_strconv_ErrRange), ("strconv.ErrSyntax", Rows.laid_strconv_ErrSyntax)]
theorem d32 : (Rows.laid_math_bits_deBruijn32tab : DataW Unit) = Lib.tabData .u8 (Lib.deBruijn32tab.map fun n : Nat => (n : Int)) := by kernel_rfl
theorem d64 : (Rows.laid_math_bits_deBruijn64tab : DataW Unit) = Lib.tabData .u8 (Lib.deBruijn64tab.map fun n : Nat => (n : Int)) := by kernel_rfl
theorem dpow : (Rows.laid_internal_strconv_uint64pow10 : DataW Unit) = Lib.tabData .u64 Lib.pow10Tab := by kernel_rfl

theorem row108 (u : TypeId) (h : Tryd.prog.typeName? 3 u = some "*errors.errorString") : u = 108 :=
  typeName_ptr_named (nm := "errors.errorString") (by kernel_rfl) (by kernel_rfl) (by decide) u h
theorem env_of_laid {W : World} (h0 : laidMetH Tryd.prog laidAll W) : Env W := by
  have h1 : laidMet Tryd.prog laidAll W := by
    rw [MakeChecks.laidMetH_plain _ _ _ (by kernel_rfl)] at h0; exact h0
  unfold laidAll at h1
  have t1 := h1.tail
  have t2 := t1.tail
  have t3 := t2.tail
  have t4 := t3.tail
  rw [d32] at h1
  rw [d64] at t1
  rw [dpow] at t2
  have f32 := Lib.tabIs_of_head (g := 6) (t := 111) (e := 5) (n := 32) (by kernel_rfl) (by kernel_rfl) Tryd.underlying111 Tryd.underlying5 (by kernel_rfl) (by kernel_rfl) h1
  have f64 := Lib.tabIs_of_head (g := 1) (t := 74) (e := 5) (n := 64) (by kernel_rfl) (by kernel_rfl) Tryd.underlying74 Tryd.underlying5 (by kernel_rfl) (by kernel_rfl) t1
  have fp := Lib.tabIs_of_head (g := 2) (t := 94) (e := 25) (n := 20) (by kernel_rfl) (by kernel_rfl) Tryd.underlying94 Tryd.underlying25 (by kernel_rfl) (by kernel_rfl) t2
  have c32 := f32.cell (g := 6) (by kernel_rfl) 0 (by decide)
  obtain ⟨a3, s3, v3, _⟩ := laid_sentinel t3 (g := 5) (ti := 64) (tp := 108) (te := 110) (ts := 9) (by kernel_rfl) (by kernel_rfl) Tryd.underlying64 row108 Tryd.underlying108 Tryd.underlying110 rfl rfl Tryd.underlying9 (by kernel_rfl) (by kernel_rfl)
  obtain ⟨a4, s4, v4, _⟩ := laid_sentinel t4 (g := 4) (ti := 64) (tp := 108) (te := 110) (ts := 9) (by kernel_rfl) (by kernel_rfl) Tryd.underlying64 row108 Tryd.underlying108 Tryd.underlying110 rfl rfl Tryd.underlying9 (by kernel_rfl) (by kernel_rfl)
  refine ⟨fp, fun j hj => ?_, ⟨108, .pointer (some a4), ?_⟩, ⟨108, .pointer (some a3), ?_⟩, ?_⟩
  · have := f64.cell (g := 1) (by kernel_rfl) j (by simpa using hj)
    rw [this]
    simp [List.getD, List.getElem?_map]
    cases Lib.deBruijn64tab[j]? <;> simp
  · have := World.var?_cell (g := 4) (by kernel_rfl) v4 0
    simpa using this
  · have := World.var?_cell (g := 5) (by kernel_rfl) v3 0
    simpa using this
  · have := World.block_lt_of_cell? _ _ c32
    exact this
theorem door_met (os : Os) (args : Array Value) : laidMetH Tryd.prog laidAll ((World.doorLaid Tryd.prog 400 os).forCall (fun _ _ => 0) ⟨#[], args, []⟩).memory :=
  laidMetH_of_parts3 (fuel := 8) (laidMet_of_run' 8 (by kernel_rfl) (by kernel_rfl)) (by kernel_rfl) (by kernel_rfl)
end Go.Proofs.YtgppadnbfggkcaaDoor
