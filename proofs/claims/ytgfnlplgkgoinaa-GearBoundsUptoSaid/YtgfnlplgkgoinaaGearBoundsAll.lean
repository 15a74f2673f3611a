/- The walk of the law GearBounds, whatever the measures are. -/
import Derived.Test.YtgfnlplgkgoinaaGearP
namespace Go.Proofs.Ytgfnlplgkgoinaa
open Go.RowKit
theorem wrong_nat' {a b c : Int} (h : wrongN a b c = false) : ∃ x y z : Nat, a = x ∧ b = y ∧ c = z := by
  unfold wrongN at h
  replace h := of_decide_eq_false h
  exact ⟨a.toNat, b.toNat, c.toNat, by omega, by omega, by omega⟩
theorem law_bounds (v : Value) (l : List UInt8) (a b c : Int) (w : World) (hl : l.length ≤ 1048576) (hB : BytesC (fun k => k < w.heap.size) w v l) : Calls Try.prog 4 #[v, par a b c] w (True' w) := by
  cases hg : wrongN a b c with
  | true => exact law_bounds_bad v a b c w hg
  | false =>
    obtain ⟨x, y, z, rfl, rfl, rfl⟩ := wrong_nat' hg
    exact law_bounds_ok v l x y z w hl hB hg
end Go.Proofs.Ytgfnlplgkgoinaa
