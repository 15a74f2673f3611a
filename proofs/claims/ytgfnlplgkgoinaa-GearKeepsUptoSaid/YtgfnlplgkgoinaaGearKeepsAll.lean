/- The walk of the law GearKeeps, whatever the measures are. -/
import Derived.Test.YtgfnlplgkgoinaaGearU
namespace Go.Proofs.Ytgfnlplgkgoinaa
open Go.RowKit
theorem wrong_nat'' {a b c : Int} (h : wrongN a b c = false) : ∃ x y z : Nat, a = x ∧ b = y ∧ c = z := by
  unfold wrongN at h
  replace h := of_decide_eq_false h
  exact ⟨a.toNat, b.toNat, c.toNat, by omega, by omega, by omega⟩
theorem law_keeps (v : Value) (l : List UInt8) (a b c : Int) (w : World) (hl : l.length ≤ 1048576) (hB : BytesC (fun k => k < w.heap.size) w v l) : Calls Try.prog 7 #[v, par a b c] w (True' w) := by
  cases hg : wrongN a b c with
  | true => exact law_keeps_bad v l a b c w hl hB hg
  | false =>
    obtain ⟨x, y, z, rfl, rfl, rfl⟩ := wrong_nat'' hg
    exact law_keeps_ok v l x y z w hl hB hg
end Go.Proofs.Ytgfnlplgkgoinaa
