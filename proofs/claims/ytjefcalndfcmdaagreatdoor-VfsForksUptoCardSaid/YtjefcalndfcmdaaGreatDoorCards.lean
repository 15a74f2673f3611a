/-
  DERIVED. GIVEN WITH THE SEED: THE CARDS: each row of YtjefcalndfcmdaaGreatDoorRows.lean that lists a variable, with what it lists TIED to the program's text (the seventh form; the later family's looks); each row that meets fmt, with fmt's text TOLD by the authors' own Lean function (tested against real Go, not proved from fmt's source: count such statements apart). THE CARD IS WHAT COUNTS. Prove the row's statement (the work); the ties are given (YtjefcalndfcmdaaGreatDoorTie.lean); close each card by the builder's one call (the guide's Derived/Test/ToyasCard.lean, 'card_holds'). Laid BY PROGRAM, IN A SANDBOX (cutbox-door.mjs). By AI agents, Wed Nov 11 2026. No macro, syntax, notation, axiom, sorry.
-/
import Derived.Test.YtjefcalndfcmdaaGreatDoorRows
import GoSem.ClaimSeven
namespace Go.Proofs.YtjefcalndfcmdaaGreatDoor
namespace Rows

/-- THE TIED CARD OF 'towlinelaw14.VfsPlays'. -/
def vfsPlaysCard : Claim7 := { stood := { row := vfsPlaysRow, standIns := [], harness := (true, "602a3711603e43c711b255bd56857af36852c0b7180d1a3473226edec56c5c9d"), looks := true }, kinds := [], alts := [], laidByText := true, laidKinds := [.data, .pinned], laidTests := true, laidLooks := .later }
def VfsPlaysCardSaid : Prop := Claim7.holds Tryz.pinned (.plain (OpenSpec.ofChange vfsPlaysSpec)) vfsPlaysCard

/-- THE TIED CARD OF 'towlinelaw14.VfsForks'. -/
def vfsForksCard : Claim7 := { stood := { row := vfsForksRow, standIns := [], harness := (true, "602a3711603e43c711b255bd56857af36852c0b7180d1a3473226edec56c5c9d"), looks := true }, kinds := [], alts := [], laidByText := true, laidKinds := [.data, .pinned], laidTests := true, laidLooks := .later }
def VfsForksCardSaid : Prop := Claim7.holds Tryz.pinned (.plain (OpenSpec.ofChange vfsForksSpec)) vfsForksCard

/-- THE TIED CARD OF 'towlinelaw14.VfsStops'. -/
def vfsStopsCard : Claim7 := { stood := { row := vfsStopsRow, standIns := [], harness := (true, "602a3711603e43c711b255bd56857af36852c0b7180d1a3473226edec56c5c9d"), looks := true }, kinds := [], alts := [], laidByText := true, laidKinds := [.data, .pinned], laidTests := true, laidLooks := .later }
def VfsStopsCardSaid : Prop := Claim7.holds Tryz.pinned (.plain (OpenSpec.ofChange vfsStopsSpec)) vfsStopsCard

/-- THE TIED CARD OF 'towlinelaw14.VfsSure'. -/
def vfsSureCard : Claim7 := { stood := { row := vfsSureRow, standIns := [], harness := (true, "602a3711603e43c711b255bd56857af36852c0b7180d1a3473226edec56c5c9d"), looks := true }, kinds := [], alts := [], laidByText := true, laidKinds := [.data, .pinned], laidTests := true, laidLooks := .later }
def VfsSureCardSaid : Prop := Claim7.holds Tryz.pinned (.plain (OpenSpec.ofChange vfsSureSpec)) vfsSureCard

/-- THE SECOND FORM's CARD OF 'towlinelaw14.VfsPlays'. -/
def vfsPlaysUptoCard : Claim7 := { stood := { row := vfsPlaysUptoRow, standIns := [], harness := (true, "602a3711603e43c711b255bd56857af36852c0b7180d1a3473226edec56c5c9d"), looks := true }, kinds := [], alts := [], laidByText := true, laidKinds := [.data, .pinned], laidTests := true, laidLooks := .later }
def VfsPlaysUptoCardSaid : Prop := Claim7.holds Tryz.pinned (.plain (OpenSpec.upto vfsPlaysSpec)) vfsPlaysUptoCard

/-- THE SECOND FORM's CARD OF 'towlinelaw14.VfsForks'. -/
def vfsForksUptoCard : Claim7 := { stood := { row := vfsForksUptoRow, standIns := [], harness := (true, "602a3711603e43c711b255bd56857af36852c0b7180d1a3473226edec56c5c9d"), looks := true }, kinds := [], alts := [], laidByText := true, laidKinds := [.data, .pinned], laidTests := true, laidLooks := .later }
def VfsForksUptoCardSaid : Prop := Claim7.holds Tryz.pinned (.plain (OpenSpec.upto vfsForksSpec)) vfsForksUptoCard

/-- THE SECOND FORM's CARD OF 'towlinelaw14.VfsStops'. -/
def vfsStopsUptoCard : Claim7 := { stood := { row := vfsStopsUptoRow, standIns := [], harness := (true, "602a3711603e43c711b255bd56857af36852c0b7180d1a3473226edec56c5c9d"), looks := true }, kinds := [], alts := [], laidByText := true, laidKinds := [.data, .pinned], laidTests := true, laidLooks := .later }
def VfsStopsUptoCardSaid : Prop := Claim7.holds Tryz.pinned (.plain (OpenSpec.upto vfsStopsSpec)) vfsStopsUptoCard

/-- THE SECOND FORM's CARD OF 'towlinelaw14.VfsSure'. -/
def vfsSureUptoCard : Claim7 := { stood := { row := vfsSureUptoRow, standIns := [], harness := (true, "602a3711603e43c711b255bd56857af36852c0b7180d1a3473226edec56c5c9d"), looks := true }, kinds := [], alts := [], laidByText := true, laidKinds := [.data, .pinned], laidTests := true, laidLooks := .later }
def VfsSureUptoCardSaid : Prop := Claim7.holds Tryz.pinned (.plain (OpenSpec.upto vfsSureSpec)) vfsSureUptoCard
end Rows
end Go.Proofs.YtjefcalndfcmdaaGreatDoor
