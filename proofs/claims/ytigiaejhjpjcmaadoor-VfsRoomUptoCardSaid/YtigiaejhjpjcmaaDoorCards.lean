/-
  DERIVED. GIVEN WITH THE SEED: THE CARDS: each row of YtigiaejhjpjcmaaDoorRows.lean that lists a variable, with what it lists TIED to the program's text (the seventh form; the later family's looks); each row that meets fmt, with fmt's text TOLD by the authors' own Lean function (tested against real Go, not proved from fmt's source: count such statements apart). THE CARD IS WHAT COUNTS. Prove the row's statement (the work); the ties are given (YtigiaejhjpjcmaaDoorTie.lean); close each card by the builder's one call (the guide's Derived/Test/ToyasCard.lean, 'card_holds'). Laid BY PROGRAM, IN A SANDBOX (cutbox-door.mjs). By AI agents, Wed Nov 11 2026. No macro, syntax, notation, axiom, sorry.
-/
import Derived.Test.YtigiaejhjpjcmaaDoorRows
import GoSem.ClaimSeven
namespace Go.Proofs.YtigiaejhjpjcmaaDoor
namespace Rows

/-- THE TIED CARD OF 'towlinelaw14.VfsRename'. -/
def vfsRenameCard : Claim7 := { stood := { row := vfsRenameRow, standIns := [], harness := (true, "44afd7b98af7c48e82fe6221fe0e72e1d85bc3770acb599d4484f02b2a8b8214"), looks := true }, kinds := [], alts := [], laidByText := true, laidKinds := [.data, .pinned], laidTests := true, laidLooks := .later }
def VfsRenameCardSaid : Prop := Claim7.holds Tryd.pinned (.plain (OpenSpec.ofChange vfsRenameSpec)) vfsRenameCard

/-- THE TIED CARD OF 'towlinelaw14.VfsRoom'. -/
def vfsRoomCard : Claim7 := { stood := { row := vfsRoomRow, standIns := [], harness := (true, "44afd7b98af7c48e82fe6221fe0e72e1d85bc3770acb599d4484f02b2a8b8214"), looks := true }, kinds := [], alts := [], laidByText := true, laidKinds := [.data, .pinned], laidTests := true, laidLooks := .later }
def VfsRoomCardSaid : Prop := Claim7.holds Tryd.pinned (.plain (OpenSpec.ofChange vfsRoomSpec)) vfsRoomCard

/-- THE SECOND FORM's CARD OF 'towlinelaw14.VfsRename'. -/
def vfsRenameUptoCard : Claim7 := { stood := { row := vfsRenameUptoRow, standIns := [], harness := (true, "44afd7b98af7c48e82fe6221fe0e72e1d85bc3770acb599d4484f02b2a8b8214"), looks := true }, kinds := [], alts := [], laidByText := true, laidKinds := [.data, .pinned], laidTests := true, laidLooks := .later }
def VfsRenameUptoCardSaid : Prop := Claim7.holds Tryd.pinned (.plain (OpenSpec.upto vfsRenameSpec)) vfsRenameUptoCard

/-- THE SECOND FORM's CARD OF 'towlinelaw14.VfsRoom'. -/
def vfsRoomUptoCard : Claim7 := { stood := { row := vfsRoomUptoRow, standIns := [], harness := (true, "44afd7b98af7c48e82fe6221fe0e72e1d85bc3770acb599d4484f02b2a8b8214"), looks := true }, kinds := [], alts := [], laidByText := true, laidKinds := [.data, .pinned], laidTests := true, laidLooks := .later }
def VfsRoomUptoCardSaid : Prop := Claim7.holds Tryd.pinned (.plain (OpenSpec.upto vfsRoomSpec)) vfsRoomUptoCard
end Rows
end Go.Proofs.YtigiaejhjpjcmaaDoor
