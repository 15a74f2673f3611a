/- The walk of PutBlob. -/
import Derived.Test.YtdolonkeanlaoaaDoorObV
namespace Go.Proofs.YtdolonkeanlaoaaDoor
open Go.RowKit
attribute [local simp high] id_size id_zero

theorem encA_below {w : World} {r : Except Int (List UInt8)} {e : Ending} {w' : World} (h : EncAnswers w r e w') : Below w.heap.size w w' := by
  cases r with
  | error c => exact h.2
  | ok o => obtain ⟨v, _, _, h⟩ := h; exact h
end Go.Proofs.YtdolonkeanlaoaaDoor
