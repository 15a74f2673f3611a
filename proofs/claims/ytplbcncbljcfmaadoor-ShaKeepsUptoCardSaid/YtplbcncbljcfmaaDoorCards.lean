/-
  DERIVED. GIVEN WITH THE SEED: THE CARDS: each row of YtplbcncbljcfmaaDoorRows.lean that lists a variable, with what it lists TIED to the program's text (the seventh form; the later family's looks); each row that meets fmt, with fmt's text TOLD by the authors' own Lean function (tested against real Go, not proved from fmt's source: count such statements apart). THE CARD IS WHAT COUNTS. Prove the row's statement (the work); the ties are given (YtplbcncbljcfmaaDoorTie.lean); close each card by the builder's one call (the guide's Derived/Test/ToyasCard.lean, 'card_holds'). Laid BY PROGRAM, IN A SANDBOX (cutbox-door.mjs). By AI agents, Wed Nov 11 2026. No macro, syntax, notation, axiom, sorry.
-/
import Derived.Test.YtplbcncbljcfmaaDoorRows
import GoSem.ClaimSeven
namespace Go.Proofs.YtplbcncbljcfmaaDoor
namespace Rows

/-- THE TIED CARD OF 'towlinelaw03.ShaSums'. -/
def shaSumsCard : Claim7 := { stood := { row := shaSumsRow, standIns := [], harness := (true, "2ec765f5008d61ec2f4d025f3fc3343cae5b447f341932a1a79031b97ff08999"), looks := true }, kinds := [], alts := [], laidByText := true, laidKinds := [.data, .data], laidTests := true, laidLooks := .later }
def ShaSumsCardSaid : Prop := Claim7.holds Tryd.pinned (.plain (OpenSpec.ofChange shaSumsSpec)) shaSumsCard

/-- THE TIED CARD OF 'towlinelaw03.ShaTexts'. -/
def shaTextsCard : Claim7 := { stood := { row := shaTextsRow, standIns := [], harness := (true, "2ec765f5008d61ec2f4d025f3fc3343cae5b447f341932a1a79031b97ff08999"), looks := true }, kinds := [], alts := [], laidByText := true, laidKinds := [.data, .data], laidTests := true, laidLooks := .later }
def ShaTextsCardSaid : Prop := Claim7.holds Tryd.pinned (.plain (OpenSpec.ofChange shaTextsSpec)) shaTextsCard

/-- THE TIED CARD OF 'towlinelaw03.ShaBack'. -/
def shaBackCard : Claim7 := { stood := { row := shaBackRow, standIns := [], harness := (true, "2ec765f5008d61ec2f4d025f3fc3343cae5b447f341932a1a79031b97ff08999"), looks := true }, kinds := [], alts := [], laidByText := true, laidKinds := [.data, .data], laidTests := true, laidLooks := .later }
def ShaBackCardSaid : Prop := Claim7.holds Tryd.pinned (.plain (OpenSpec.ofChange shaBackSpec)) shaBackCard

/-- THE TIED CARD OF 'towlinelaw03.ShaShort'. -/
def shaShortCard : Claim7 := { stood := { row := shaShortRow, standIns := [], harness := (true, "2ec765f5008d61ec2f4d025f3fc3343cae5b447f341932a1a79031b97ff08999"), looks := true }, kinds := [], alts := [], laidByText := true, laidKinds := [.data, .data], laidTests := true, laidLooks := .later }
def ShaShortCardSaid : Prop := Claim7.holds Tryd.pinned (.plain (OpenSpec.ofChange shaShortSpec)) shaShortCard

/-- THE TIED CARD OF 'towlinelaw03.ShaKeeps'. -/
def shaKeepsCard : Claim7 := { stood := { row := shaKeepsRow, standIns := [], harness := (true, "2ec765f5008d61ec2f4d025f3fc3343cae5b447f341932a1a79031b97ff08999"), looks := true }, kinds := [], alts := [], laidByText := true, laidKinds := [.data, .data], laidTests := true, laidLooks := .later }
def ShaKeepsCardSaid : Prop := Claim7.holds Tryd.pinned (.plain (OpenSpec.ofChange shaKeepsSpec)) shaKeepsCard

/-- THE TIED CARD OF 'towlinelaw05.PathLooks'. -/
def pathLooksCard : Claim7 := { stood := { row := pathLooksRow, standIns := [], harness := (true, "2ec765f5008d61ec2f4d025f3fc3343cae5b447f341932a1a79031b97ff08999"), looks := true }, kinds := [], alts := [], laidByText := true, laidKinds := [.data, .pinned], laidTests := true, laidLooks := .later }
def PathLooksCardSaid : Prop := Claim7.holds Tryd.pinned (.plain (OpenSpec.ofChange pathLooksSpec)) pathLooksCard

/-- THE TIED CARD OF 'towlinelaw05.PathLists'. -/
def pathListsCard : Claim7 := { stood := { row := pathListsRow, standIns := [], harness := (true, "2ec765f5008d61ec2f4d025f3fc3343cae5b447f341932a1a79031b97ff08999"), looks := true }, kinds := [], alts := [], laidByText := true, laidKinds := [.data, .pinned], laidTests := true, laidLooks := .later }
def PathListsCardSaid : Prop := Claim7.holds Tryd.pinned (.plain (OpenSpec.ofChange pathListsSpec)) pathListsCard

/-- THE TIED CARD OF 'towlinelaw05.PathOrder'. -/
def pathOrderCard : Claim7 := { stood := { row := pathOrderRow, standIns := [], harness := (true, "2ec765f5008d61ec2f4d025f3fc3343cae5b447f341932a1a79031b97ff08999"), looks := true }, kinds := [], alts := [], laidByText := true, laidKinds := [.data, .pinned], laidTests := true, laidLooks := .later }
def PathOrderCardSaid : Prop := Claim7.holds Tryd.pinned (.plain (OpenSpec.ofChange pathOrderSpec)) pathOrderCard

/-- THE TIED CARD OF 'towlinelaw05.PathParts'. -/
def pathPartsCard : Claim7 := { stood := { row := pathPartsRow, standIns := [], harness := (true, "2ec765f5008d61ec2f4d025f3fc3343cae5b447f341932a1a79031b97ff08999"), looks := true }, kinds := [], alts := [], laidByText := true, laidKinds := [.data, .pinned], laidTests := true, laidLooks := .later }
def PathPartsCardSaid : Prop := Claim7.holds Tryd.pinned (.plain (OpenSpec.ofChange pathPartsSpec)) pathPartsCard

/-- THE TIED CARD OF 'towlinelaw05.PathClash'. -/
def pathClashCard : Claim7 := { stood := { row := pathClashRow, standIns := [], harness := (true, "2ec765f5008d61ec2f4d025f3fc3343cae5b447f341932a1a79031b97ff08999"), looks := true }, kinds := [], alts := [], laidByText := true, laidKinds := [.data, .pinned], laidTests := true, laidLooks := .later }
def PathClashCardSaid : Prop := Claim7.holds Tryd.pinned (.plain (OpenSpec.ofChange pathClashSpec)) pathClashCard

/-- THE TIED CARD OF 'towlinelaw05.PathSorted'. -/
def pathSortedCard : Claim7 := { stood := { row := pathSortedRow, standIns := [], harness := (true, "2ec765f5008d61ec2f4d025f3fc3343cae5b447f341932a1a79031b97ff08999"), looks := true }, kinds := [], alts := [], laidByText := true, laidKinds := [.data, .pinned], laidTests := true, laidLooks := .later }
def PathSortedCardSaid : Prop := Claim7.holds Tryd.pinned (.plain (OpenSpec.ofChange pathSortedSpec)) pathSortedCard

/-- THE TIED CARD OF 'towlinelaw06.GlobMatches'. -/
def globMatchesCard : Claim7 := { stood := { row := globMatchesRow, standIns := [], harness := (true, "2ec765f5008d61ec2f4d025f3fc3343cae5b447f341932a1a79031b97ff08999"), looks := true }, kinds := [], alts := [], laidByText := true, laidKinds := [.data, .pinned], laidTests := true, laidLooks := .later }
def GlobMatchesCardSaid : Prop := Claim7.holds Tryd.pinned (.plain (OpenSpec.ofChange globMatchesSpec)) globMatchesCard

/-- THE SECOND FORM's CARD OF 'towlinelaw03.ShaSums'. -/
def shaSumsUptoCard : Claim7 := { stood := { row := shaSumsUptoRow, standIns := [], harness := (true, "2ec765f5008d61ec2f4d025f3fc3343cae5b447f341932a1a79031b97ff08999"), looks := true }, kinds := [], alts := [], laidByText := true, laidKinds := [.data, .data], laidTests := true, laidLooks := .later }
def ShaSumsUptoCardSaid : Prop := Claim7.holds Tryd.pinned (.plain (OpenSpec.upto shaSumsSpec)) shaSumsUptoCard

/-- THE SECOND FORM's CARD OF 'towlinelaw03.ShaTexts'. -/
def shaTextsUptoCard : Claim7 := { stood := { row := shaTextsUptoRow, standIns := [], harness := (true, "2ec765f5008d61ec2f4d025f3fc3343cae5b447f341932a1a79031b97ff08999"), looks := true }, kinds := [], alts := [], laidByText := true, laidKinds := [.data, .data], laidTests := true, laidLooks := .later }
def ShaTextsUptoCardSaid : Prop := Claim7.holds Tryd.pinned (.plain (OpenSpec.upto shaTextsSpec)) shaTextsUptoCard

/-- THE SECOND FORM's CARD OF 'towlinelaw03.ShaBack'. -/
def shaBackUptoCard : Claim7 := { stood := { row := shaBackUptoRow, standIns := [], harness := (true, "2ec765f5008d61ec2f4d025f3fc3343cae5b447f341932a1a79031b97ff08999"), looks := true }, kinds := [], alts := [], laidByText := true, laidKinds := [.data, .data], laidTests := true, laidLooks := .later }
def ShaBackUptoCardSaid : Prop := Claim7.holds Tryd.pinned (.plain (OpenSpec.upto shaBackSpec)) shaBackUptoCard

/-- THE SECOND FORM's CARD OF 'towlinelaw03.ShaShort'. -/
def shaShortUptoCard : Claim7 := { stood := { row := shaShortUptoRow, standIns := [], harness := (true, "2ec765f5008d61ec2f4d025f3fc3343cae5b447f341932a1a79031b97ff08999"), looks := true }, kinds := [], alts := [], laidByText := true, laidKinds := [.data, .data], laidTests := true, laidLooks := .later }
def ShaShortUptoCardSaid : Prop := Claim7.holds Tryd.pinned (.plain (OpenSpec.upto shaShortSpec)) shaShortUptoCard

/-- THE SECOND FORM's CARD OF 'towlinelaw03.ShaKeeps'. -/
def shaKeepsUptoCard : Claim7 := { stood := { row := shaKeepsUptoRow, standIns := [], harness := (true, "2ec765f5008d61ec2f4d025f3fc3343cae5b447f341932a1a79031b97ff08999"), looks := true }, kinds := [], alts := [], laidByText := true, laidKinds := [.data, .data], laidTests := true, laidLooks := .later }
def ShaKeepsUptoCardSaid : Prop := Claim7.holds Tryd.pinned (.plain (OpenSpec.upto shaKeepsSpec)) shaKeepsUptoCard

/-- THE SECOND FORM's CARD OF 'towlinelaw05.PathLooks'. -/
def pathLooksUptoCard : Claim7 := { stood := { row := pathLooksUptoRow, standIns := [], harness := (true, "2ec765f5008d61ec2f4d025f3fc3343cae5b447f341932a1a79031b97ff08999"), looks := true }, kinds := [], alts := [], laidByText := true, laidKinds := [.data, .pinned], laidTests := true, laidLooks := .later }
def PathLooksUptoCardSaid : Prop := Claim7.holds Tryd.pinned (.plain (OpenSpec.upto pathLooksSpec)) pathLooksUptoCard

/-- THE SECOND FORM's CARD OF 'towlinelaw05.PathLists'. -/
def pathListsUptoCard : Claim7 := { stood := { row := pathListsUptoRow, standIns := [], harness := (true, "2ec765f5008d61ec2f4d025f3fc3343cae5b447f341932a1a79031b97ff08999"), looks := true }, kinds := [], alts := [], laidByText := true, laidKinds := [.data, .pinned], laidTests := true, laidLooks := .later }
def PathListsUptoCardSaid : Prop := Claim7.holds Tryd.pinned (.plain (OpenSpec.upto pathListsSpec)) pathListsUptoCard

/-- THE SECOND FORM's CARD OF 'towlinelaw05.PathOrder'. -/
def pathOrderUptoCard : Claim7 := { stood := { row := pathOrderUptoRow, standIns := [], harness := (true, "2ec765f5008d61ec2f4d025f3fc3343cae5b447f341932a1a79031b97ff08999"), looks := true }, kinds := [], alts := [], laidByText := true, laidKinds := [.data, .pinned], laidTests := true, laidLooks := .later }
def PathOrderUptoCardSaid : Prop := Claim7.holds Tryd.pinned (.plain (OpenSpec.upto pathOrderSpec)) pathOrderUptoCard

/-- THE SECOND FORM's CARD OF 'towlinelaw05.PathParts'. -/
def pathPartsUptoCard : Claim7 := { stood := { row := pathPartsUptoRow, standIns := [], harness := (true, "2ec765f5008d61ec2f4d025f3fc3343cae5b447f341932a1a79031b97ff08999"), looks := true }, kinds := [], alts := [], laidByText := true, laidKinds := [.data, .pinned], laidTests := true, laidLooks := .later }
def PathPartsUptoCardSaid : Prop := Claim7.holds Tryd.pinned (.plain (OpenSpec.upto pathPartsSpec)) pathPartsUptoCard

/-- THE SECOND FORM's CARD OF 'towlinelaw05.PathClash'. -/
def pathClashUptoCard : Claim7 := { stood := { row := pathClashUptoRow, standIns := [], harness := (true, "2ec765f5008d61ec2f4d025f3fc3343cae5b447f341932a1a79031b97ff08999"), looks := true }, kinds := [], alts := [], laidByText := true, laidKinds := [.data, .pinned], laidTests := true, laidLooks := .later }
def PathClashUptoCardSaid : Prop := Claim7.holds Tryd.pinned (.plain (OpenSpec.upto pathClashSpec)) pathClashUptoCard

/-- THE SECOND FORM's CARD OF 'towlinelaw05.PathSorted'. -/
def pathSortedUptoCard : Claim7 := { stood := { row := pathSortedUptoRow, standIns := [], harness := (true, "2ec765f5008d61ec2f4d025f3fc3343cae5b447f341932a1a79031b97ff08999"), looks := true }, kinds := [], alts := [], laidByText := true, laidKinds := [.data, .pinned], laidTests := true, laidLooks := .later }
def PathSortedUptoCardSaid : Prop := Claim7.holds Tryd.pinned (.plain (OpenSpec.upto pathSortedSpec)) pathSortedUptoCard

/-- THE SECOND FORM's CARD OF 'towlinelaw06.GlobMatches'. -/
def globMatchesUptoCard : Claim7 := { stood := { row := globMatchesUptoRow, standIns := [], harness := (true, "2ec765f5008d61ec2f4d025f3fc3343cae5b447f341932a1a79031b97ff08999"), looks := true }, kinds := [], alts := [], laidByText := true, laidKinds := [.data, .pinned], laidTests := true, laidLooks := .later }
def GlobMatchesUptoCardSaid : Prop := Claim7.holds Tryd.pinned (.plain (OpenSpec.upto globMatchesSpec)) globMatchesUptoCard
end Rows
end Go.Proofs.YtplbcncbljcfmaaDoor
