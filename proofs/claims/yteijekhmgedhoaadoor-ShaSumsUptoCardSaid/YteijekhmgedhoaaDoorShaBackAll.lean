/- The walk of the law ShaBack. -/
import Derived.Test.YteijekhmgedhoaaDoorShaW
namespace Go.Proofs.YteijekhmgedhoaaDoor
open Go.RowKit
attribute [local simp high] id_size id_zero

def True' (w : World) (e : Ending) (w' : World) : Prop := e = .returned (.bool true) ∧ Below w.heap.size w w'
end Go.Proofs.YteijekhmgedhoaaDoor
