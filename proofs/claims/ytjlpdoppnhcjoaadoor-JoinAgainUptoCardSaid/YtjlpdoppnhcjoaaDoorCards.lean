/-
  DERIVED. GIVEN WITH THE SEED: THE CARDS: each row of YtjlpdoppnhcjoaaDoorRows.lean that lists a variable, with what it lists TIED to the program's text (the seventh form; the later family's looks); each row that meets fmt, with fmt's text TOLD by the authors' own Lean function (tested against real Go, not proved from fmt's source: count such statements apart). THE CARD IS WHAT COUNTS. Prove the row's statement (the work); the ties are given (YtjlpdoppnhcjoaaDoorTie.lean); close each card by the builder's one call (the guide's Derived/Test/ToyasCard.lean, 'card_holds'). Laid BY PROGRAM, IN A SANDBOX (cutbox-door.mjs). By AI agents, Wed Nov 11 2026. No macro, syntax, notation, axiom, sorry.
-/
import Derived.Test.YtjlpdoppnhcjoaaDoorRows
import GoSem.ClaimSeven
namespace Go.Proofs.YtjlpdoppnhcjoaaDoor
namespace Rows

/-- THE TIED CARD OF 'towlinelaw13.JoinSides'. -/
def joinSidesCard : Claim7 := { stood := { row := joinSidesRow, standIns := [], harness := (true, "e52490b532157a7462989c42867bd7f1cb23a1572725543f76cf4a11b7b4a575"), looks := false }, kinds := [], alts := [], laidByText := true, laidKinds := [.data, .pinned], laidTests := true, laidLooks := .later }
def JoinSidesCardSaid : Prop := Claim7.holds Tryd.pinned (.plain (OpenSpec.ofChange joinSidesSpec)) joinSidesCard

/-- THE TIED CARD OF 'towlinelaw13.JoinSwap'. -/
def joinSwapCard : Claim7 := { stood := { row := joinSwapRow, standIns := [], harness := (true, "e52490b532157a7462989c42867bd7f1cb23a1572725543f76cf4a11b7b4a575"), looks := false }, kinds := [], alts := [], laidByText := true, laidKinds := [.data, .pinned], laidTests := true, laidLooks := .later }
def JoinSwapCardSaid : Prop := Claim7.holds Tryd.pinned (.plain (OpenSpec.ofChange joinSwapSpec)) joinSwapCard

/-- THE TIED CARD OF 'towlinelaw13.JoinKeeps'. -/
def joinKeepsCard : Claim7 := { stood := { row := joinKeepsRow, standIns := [], harness := (true, "e52490b532157a7462989c42867bd7f1cb23a1572725543f76cf4a11b7b4a575"), looks := false }, kinds := [], alts := [], laidByText := true, laidKinds := [.data, .pinned], laidTests := true, laidLooks := .later }
def JoinKeepsCardSaid : Prop := Claim7.holds Tryd.pinned (.plain (OpenSpec.ofChange joinKeepsSpec)) joinKeepsCard

/-- THE TIED CARD OF 'towlinelaw13.JoinAgain'. -/
def joinAgainCard : Claim7 := { stood := { row := joinAgainRow, standIns := [], harness := (true, "e52490b532157a7462989c42867bd7f1cb23a1572725543f76cf4a11b7b4a575"), looks := false }, kinds := [], alts := [], laidByText := true, laidKinds := [.data, .pinned], laidTests := true, laidLooks := .later }
def JoinAgainCardSaid : Prop := Claim7.holds Tryd.pinned (.plain (OpenSpec.ofChange joinAgainSpec)) joinAgainCard

/-- THE TIED CARD OF 'towlinelaw13.JoinTimes'. -/
def joinTimesCard : Claim7 := { stood := { row := joinTimesRow, standIns := [], harness := (true, "e52490b532157a7462989c42867bd7f1cb23a1572725543f76cf4a11b7b4a575"), looks := false }, kinds := [], alts := [], laidByText := true, laidKinds := [.data, .pinned], laidTests := true, laidLooks := .later }
def JoinTimesCardSaid : Prop := Claim7.holds Tryd.pinned (.plain (OpenSpec.ofChange joinTimesSpec)) joinTimesCard

/-- THE SECOND FORM's CARD OF 'towlinelaw13.JoinSides'. -/
def joinSidesUptoCard : Claim7 := { stood := { row := joinSidesUptoRow, standIns := [], harness := (true, "e52490b532157a7462989c42867bd7f1cb23a1572725543f76cf4a11b7b4a575"), looks := false }, kinds := [], alts := [], laidByText := true, laidKinds := [.data, .pinned], laidTests := true, laidLooks := .later }
def JoinSidesUptoCardSaid : Prop := Claim7.holds Tryd.pinned (.plain (OpenSpec.upto joinSidesSpec)) joinSidesUptoCard

/-- THE SECOND FORM's CARD OF 'towlinelaw13.JoinSwap'. -/
def joinSwapUptoCard : Claim7 := { stood := { row := joinSwapUptoRow, standIns := [], harness := (true, "e52490b532157a7462989c42867bd7f1cb23a1572725543f76cf4a11b7b4a575"), looks := false }, kinds := [], alts := [], laidByText := true, laidKinds := [.data, .pinned], laidTests := true, laidLooks := .later }
def JoinSwapUptoCardSaid : Prop := Claim7.holds Tryd.pinned (.plain (OpenSpec.upto joinSwapSpec)) joinSwapUptoCard

/-- THE SECOND FORM's CARD OF 'towlinelaw13.JoinKeeps'. -/
def joinKeepsUptoCard : Claim7 := { stood := { row := joinKeepsUptoRow, standIns := [], harness := (true, "e52490b532157a7462989c42867bd7f1cb23a1572725543f76cf4a11b7b4a575"), looks := false }, kinds := [], alts := [], laidByText := true, laidKinds := [.data, .pinned], laidTests := true, laidLooks := .later }
def JoinKeepsUptoCardSaid : Prop := Claim7.holds Tryd.pinned (.plain (OpenSpec.upto joinKeepsSpec)) joinKeepsUptoCard

/-- THE SECOND FORM's CARD OF 'towlinelaw13.JoinAgain'. -/
def joinAgainUptoCard : Claim7 := { stood := { row := joinAgainUptoRow, standIns := [], harness := (true, "e52490b532157a7462989c42867bd7f1cb23a1572725543f76cf4a11b7b4a575"), looks := false }, kinds := [], alts := [], laidByText := true, laidKinds := [.data, .pinned], laidTests := true, laidLooks := .later }
def JoinAgainUptoCardSaid : Prop := Claim7.holds Tryd.pinned (.plain (OpenSpec.upto joinAgainSpec)) joinAgainUptoCard

/-- THE SECOND FORM's CARD OF 'towlinelaw13.JoinTimes'. -/
def joinTimesUptoCard : Claim7 := { stood := { row := joinTimesUptoRow, standIns := [], harness := (true, "e52490b532157a7462989c42867bd7f1cb23a1572725543f76cf4a11b7b4a575"), looks := false }, kinds := [], alts := [], laidByText := true, laidKinds := [.data, .pinned], laidTests := true, laidLooks := .later }
def JoinTimesUptoCardSaid : Prop := Claim7.holds Tryd.pinned (.plain (OpenSpec.upto joinTimesSpec)) joinTimesUptoCard
end Rows
end Go.Proofs.YtjlpdoppnhcjoaaDoor
