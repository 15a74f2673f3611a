/-
  DERIVED. GIVEN WITH THE SEED: THE CARDS: each row of YtgknihcpmpfocaaDoorRows.lean that lists a variable, with what it lists TIED to the program's text (the seventh form; the later family's looks); each row that meets fmt, with fmt's text TOLD by the authors' own Lean function (tested against real Go, not proved from fmt's source: count such statements apart). THE CARD IS WHAT COUNTS. Prove the row's statement (the work); the ties are given (YtgknihcpmpfocaaDoorTie.lean); close each card by the builder's one call (the guide's Derived/Test/ToyasCard.lean, 'card_holds'). Laid BY PROGRAM, IN A SANDBOX (cutbox-door.mjs). By AI agents, Wed Nov 11 2026. No macro, syntax, notation, axiom, sorry.
-/
import Derived.Test.YtgknihcpmpfocaaDoorRows
import GoSem.ClaimSeven
namespace Go.Proofs.YtgknihcpmpfocaaDoor
namespace Rows

/-- THE TIED CARD OF 'towlinelaw15.PackScans'. -/
def packScansCard : Claim7 := { stood := { row := packScansRow, standIns := [], harness := (true, "745559945248e9c43cda1ad961724febd3f9ea07b15a71a5571e82ca27d4db36"), looks := true }, kinds := [], alts := [], laidByText := true, laidKinds := [.data, .data, .data, .pinned], laidTests := true, laidLooks := .later }
def PackScansCardSaid : Prop := Claim7.holds Tryd.pinned (.plain (OpenSpec.ofChange packScansSpec)) packScansCard

/-- THE TIED CARD OF 'towlinelaw15.PackOnce'. -/
def packOnceCard : Claim7 := { stood := { row := packOnceRow, standIns := [], harness := (true, "745559945248e9c43cda1ad961724febd3f9ea07b15a71a5571e82ca27d4db36"), looks := true }, kinds := [], alts := [], laidByText := true, laidKinds := [.data, .data, .data, .pinned], laidTests := true, laidLooks := .later }
def PackOnceCardSaid : Prop := Claim7.holds Tryd.pinned (.plain (OpenSpec.ofChange packOnceSpec)) packOnceCard

/-- THE TIED CARD OF 'towlinelaw15.PackOrder'. -/
def packOrderCard : Claim7 := { stood := { row := packOrderRow, standIns := [], harness := (true, "745559945248e9c43cda1ad961724febd3f9ea07b15a71a5571e82ca27d4db36"), looks := true }, kinds := [], alts := [], laidByText := true, laidKinds := [.data, .data, .data, .pinned], laidTests := true, laidLooks := .later }
def PackOrderCardSaid : Prop := Claim7.holds Tryd.pinned (.plain (OpenSpec.ofChange packOrderSpec)) packOrderCard

/-- THE SECOND FORM's CARD OF 'towlinelaw15.PackScans'. -/
def packScansUptoCard : Claim7 := { stood := { row := packScansUptoRow, standIns := [], harness := (true, "745559945248e9c43cda1ad961724febd3f9ea07b15a71a5571e82ca27d4db36"), looks := true }, kinds := [], alts := [], laidByText := true, laidKinds := [.data, .data, .data, .pinned], laidTests := true, laidLooks := .later }
def PackScansUptoCardSaid : Prop := Claim7.holds Tryd.pinned (.plain (OpenSpec.upto packScansSpec)) packScansUptoCard

/-- THE SECOND FORM's CARD OF 'towlinelaw15.PackOnce'. -/
def packOnceUptoCard : Claim7 := { stood := { row := packOnceUptoRow, standIns := [], harness := (true, "745559945248e9c43cda1ad961724febd3f9ea07b15a71a5571e82ca27d4db36"), looks := true }, kinds := [], alts := [], laidByText := true, laidKinds := [.data, .data, .data, .pinned], laidTests := true, laidLooks := .later }
def PackOnceUptoCardSaid : Prop := Claim7.holds Tryd.pinned (.plain (OpenSpec.upto packOnceSpec)) packOnceUptoCard

/-- THE SECOND FORM's CARD OF 'towlinelaw15.PackOrder'. -/
def packOrderUptoCard : Claim7 := { stood := { row := packOrderUptoRow, standIns := [], harness := (true, "745559945248e9c43cda1ad961724febd3f9ea07b15a71a5571e82ca27d4db36"), looks := true }, kinds := [], alts := [], laidByText := true, laidKinds := [.data, .data, .data, .pinned], laidTests := true, laidLooks := .later }
def PackOrderUptoCardSaid : Prop := Claim7.holds Tryd.pinned (.plain (OpenSpec.upto packOrderSpec)) packOrderUptoCard
end Rows
end Go.Proofs.YtgknihcpmpfocaaDoor
