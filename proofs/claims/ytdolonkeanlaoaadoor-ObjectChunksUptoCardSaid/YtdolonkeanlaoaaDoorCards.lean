/-
  DERIVED. GIVEN WITH THE SEED: THE CARDS: each row of YtdolonkeanlaoaaDoorRows.lean that lists a variable, with what it lists TIED to the program's text (the seventh form; the later family's looks); each row that meets fmt, with fmt's text TOLD by the authors' own Lean function (tested against real Go, not proved from fmt's source: count such statements apart). THE CARD IS WHAT COUNTS. Prove the row's statement (the work); the ties are given (YtdolonkeanlaoaaDoorTie.lean); close each card by the builder's one call (the guide's Derived/Test/ToyasCard.lean, 'card_holds'). Laid BY PROGRAM, IN A SANDBOX (cutbox-door.mjs). By AI agents, Wed Nov 11 2026. No macro, syntax, notation, axiom, sorry.
-/
import Derived.Test.YtdolonkeanlaoaaDoorRows
import GoSem.ClaimSeven
namespace Go.Proofs.YtdolonkeanlaoaaDoor
namespace Rows

/-- THE TIED CARD OF 'towlinelaw09.ObjectChunks'. -/
def objectChunksCard : Claim7 := { stood := { row := objectChunksRow, standIns := [], harness := (true, "0ebe81ec021760a5693e84e5d57f889242f621c7b66e2147e9e61a799ca03f7e"), looks := true }, kinds := [], alts := [], laidByText := true, laidKinds := [.data, .data], laidTests := true, laidLooks := .later }
def ObjectChunksCardSaid : Prop := Claim7.holds Tryd.pinned (.plain (OpenSpec.ofChange objectChunksSpec)) objectChunksCard

/-- THE SECOND FORM's CARD OF 'towlinelaw09.ObjectChunks'. -/
def objectChunksUptoCard : Claim7 := { stood := { row := objectChunksUptoRow, standIns := [], harness := (true, "0ebe81ec021760a5693e84e5d57f889242f621c7b66e2147e9e61a799ca03f7e"), looks := true }, kinds := [], alts := [], laidByText := true, laidKinds := [.data, .data], laidTests := true, laidLooks := .later }
def ObjectChunksUptoCardSaid : Prop := Claim7.holds Tryd.pinned (.plain (OpenSpec.upto objectChunksSpec)) objectChunksUptoCard
end Rows
end Go.Proofs.YtdolonkeanlaoaaDoor
