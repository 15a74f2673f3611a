/-
  No cell of these rows narrows 'for every input' (looked for: loops, veiled, ifaces, maps, wideKeys, modest, calm, conditions, laid).
  DERIVED. THE GIVEN ROWS OF THIS SEAT. 15 by the template 'for every input the law returns true; each argument reads behind the call as it read before'; 0 by the template 'total and deterministic' (their statements: YtfiogjdjcocbnaaTotals.lean).
  GIVEN WITH THE SEED: the statements are not yours to turn. If you find one false, say at which input.
  Laid BY PROGRAM, IN A SANDBOX (cutbox-rows.mjs): the forced cells as the released guide's own fill.sh prints them over the translation 4a975653dc6919a0… (all of the seat's roots in one cut). By AI agents, Wed Nov 11 2026. No macro, syntax, notation, axiom, sorry.
-/
import Derived.Test.YtfiogjdjcocbnaaChecked
import GoSem.Claim
import GoSem.ClaimJoined
import GoSem.ClaimMapViews
import Derived.JoinedTies
import Derived.KernelRfl
namespace Go.Proofs.Ytfiogjdjcocbnaa
/- THE CELL 'sum', in the pinned program and in every row, IS THE sha256 OF THE DUMP (.gsa) THAT YtfiogjdjcocbnaaProg.lean LOADS. Nothing in Lean hashes anything: it is a label: what it is worth is what the hold of that sum in a sandbox is worth. -/
noncomputable def Try.pinned : Pinned := { name := "ytfiogjdjcocbnaa", sum := "4a975653dc6919a0d1b62c24a6cf72be8e56d947bdbf0d6e08b5fb3e229e7b4e", checked := Try.checked }
namespace Rows
def none {H : Type} : Left H := { results := [], args := [] }

/-- 'towlinelaw07.LinesSplit': WHATEVER THE INPUT: true; the input reads as it did. -/
def linesSplitSpec : ChangeSpec := { name := "linesSplit", fn := fun _ => fun
  | [d] => { results := [.lit (.bool true)], args := [d] }
  | _ => none }
def linesSplitRow : OpenClaim := { program := "ytfiogjdjcocbnaa", sum := "4a975653dc6919a0d1b62c24a6cf72be8e56d947bdbf0d6e08b5fb3e229e7b4e", func := "towline/towlinelaw07.LinesSplit", spec := "linesSplit", inPlace := ["internal/bytealg.IndexByte"], unfollowed := true, recurses := true, apart := false }
def LinesSplitSaid : Prop := linesSplitRow.holds Try.pinned (OpenSpec.ofChange linesSplitSpec)

/-- ITS FALSE NEIGHBOUR: 'it returns false'. Refute it at one input. -/
def linesSplitWrong : ChangeSpec := { name := "linesSplit", fn := fun _ => fun
  | [d] => { results := [.lit (.bool false)], args := [d] }
  | _ => none }
def LinesSplitWrongFalsely : Prop := linesSplitRow.holds Try.pinned (OpenSpec.ofChange linesSplitWrong)

/-- 'towlinelaw07.LinesDiffer': WHATEVER THE INPUT: true; the input reads as it did. -/
def linesDifferSpec : ChangeSpec := { name := "linesDiffer", fn := fun _ => fun
  | [d1, d2] => { results := [.lit (.bool true)], args := [d1, d2] }
  | _ => none }
def linesDifferRow : OpenClaim := { program := "ytfiogjdjcocbnaa", sum := "4a975653dc6919a0d1b62c24a6cf72be8e56d947bdbf0d6e08b5fb3e229e7b4e", func := "towline/towlinelaw07.LinesDiffer", spec := "linesDiffer", inPlace := ["internal/bytealg.IndexByte"], unfollowed := true, recurses := true, apart := false }
def LinesDifferSaid : Prop := linesDifferRow.holds Try.pinned (OpenSpec.ofChange linesDifferSpec)

/-- ITS FALSE NEIGHBOUR: 'it returns false'. Refute it at one input. -/
def linesDifferWrong : ChangeSpec := { name := "linesDiffer", fn := fun _ => fun
  | [d1, d2] => { results := [.lit (.bool false)], args := [d1, d2] }
  | _ => none }
def LinesDifferWrongFalsely : Prop := linesDifferRow.holds Try.pinned (OpenSpec.ofChange linesDifferWrong)

/-- 'towlinelaw07.LinesPatch': WHATEVER THE INPUT: true; the input reads as it did. -/
def linesPatchSpec : ChangeSpec := { name := "linesPatch", fn := fun _ => fun
  | [d1, d2] => { results := [.lit (.bool true)], args := [d1, d2] }
  | _ => none }
def linesPatchRow : OpenClaim := { program := "ytfiogjdjcocbnaa", sum := "4a975653dc6919a0d1b62c24a6cf72be8e56d947bdbf0d6e08b5fb3e229e7b4e", func := "towline/towlinelaw07.LinesPatch", spec := "linesPatch", inPlace := ["internal/bytealg.IndexByte"], unfollowed := true, recurses := true, apart := false }
def LinesPatchSaid : Prop := linesPatchRow.holds Try.pinned (OpenSpec.ofChange linesPatchSpec)

/-- ITS FALSE NEIGHBOUR: 'it returns false'. Refute it at one input. -/
def linesPatchWrong : ChangeSpec := { name := "linesPatch", fn := fun _ => fun
  | [d1, d2] => { results := [.lit (.bool false)], args := [d1, d2] }
  | _ => none }
def LinesPatchWrongFalsely : Prop := linesPatchRow.holds Try.pinned (OpenSpec.ofChange linesPatchWrong)

/-- 'towlinelaw07.LinesThere': WHATEVER THE INPUT: true; the input reads as it did. -/
def linesThereSpec : ChangeSpec := { name := "linesThere", fn := fun _ => fun
  | [d1, d2] => { results := [.lit (.bool true)], args := [d1, d2] }
  | _ => none }
def linesThereRow : OpenClaim := { program := "ytfiogjdjcocbnaa", sum := "4a975653dc6919a0d1b62c24a6cf72be8e56d947bdbf0d6e08b5fb3e229e7b4e", func := "towline/towlinelaw07.LinesThere", spec := "linesThere", inPlace := ["internal/bytealg.IndexByte"], unfollowed := true, recurses := true, apart := false }
def LinesThereSaid : Prop := linesThereRow.holds Try.pinned (OpenSpec.ofChange linesThereSpec)

/-- ITS FALSE NEIGHBOUR: 'it returns false'. Refute it at one input. -/
def linesThereWrong : ChangeSpec := { name := "linesThere", fn := fun _ => fun
  | [d1, d2] => { results := [.lit (.bool false)], args := [d1, d2] }
  | _ => none }
def LinesThereWrongFalsely : Prop := linesThereRow.holds Try.pinned (OpenSpec.ofChange linesThereWrong)

/-- 'towlinelaw07.LinesLongest': WHATEVER THE INPUT: true; the input reads as it did. -/
def linesLongestSpec : ChangeSpec := { name := "linesLongest", fn := fun _ => fun
  | [d1, d2, d3] => { results := [.lit (.bool true)], args := [d1, d2, d3] }
  | _ => none }
def linesLongestRow : OpenClaim := { program := "ytfiogjdjcocbnaa", sum := "4a975653dc6919a0d1b62c24a6cf72be8e56d947bdbf0d6e08b5fb3e229e7b4e", func := "towline/towlinelaw07.LinesLongest", spec := "linesLongest", inPlace := ["internal/bytealg.IndexByte"], unfollowed := true, recurses := true, apart := false }
def LinesLongestSaid : Prop := linesLongestRow.holds Try.pinned (OpenSpec.ofChange linesLongestSpec)

/-- ITS FALSE NEIGHBOUR: 'it returns false'. Refute it at one input. -/
def linesLongestWrong : ChangeSpec := { name := "linesLongest", fn := fun _ => fun
  | [d1, d2, d3] => { results := [.lit (.bool false)], args := [d1, d2, d3] }
  | _ => none }
def LinesLongestWrongFalsely : Prop := linesLongestRow.holds Try.pinned (OpenSpec.ofChange linesLongestWrong)

/-- 'towlinelaw07.LinesEnds': WHATEVER THE INPUT: true; the input reads as it did. -/
def linesEndsSpec : ChangeSpec := { name := "linesEnds", fn := fun _ => fun
  | [d1, d2, d3] => { results := [.lit (.bool true)], args := [d1, d2, d3] }
  | _ => none }
def linesEndsRow : OpenClaim := { program := "ytfiogjdjcocbnaa", sum := "4a975653dc6919a0d1b62c24a6cf72be8e56d947bdbf0d6e08b5fb3e229e7b4e", func := "towline/towlinelaw07.LinesEnds", spec := "linesEnds", inPlace := ["internal/bytealg.IndexByte"], unfollowed := true, recurses := true, apart := false }
def LinesEndsSaid : Prop := linesEndsRow.holds Try.pinned (OpenSpec.ofChange linesEndsSpec)

/-- ITS FALSE NEIGHBOUR: 'it returns false'. Refute it at one input. -/
def linesEndsWrong : ChangeSpec := { name := "linesEnds", fn := fun _ => fun
  | [d1, d2, d3] => { results := [.lit (.bool false)], args := [d1, d2, d3] }
  | _ => none }
def LinesEndsWrongFalsely : Prop := linesEndsRow.holds Try.pinned (OpenSpec.ofChange linesEndsWrong)

/-- 'towlinelaw08.WeaveMerges': WHATEVER THE INPUT: true; the input reads as it did. -/
def weaveMergesSpec : ChangeSpec := { name := "weaveMerges", fn := fun _ => fun
  | [d1, d2, d3] => { results := [.lit (.bool true)], args := [d1, d2, d3] }
  | _ => none }
def weaveMergesRow : OpenClaim := { program := "ytfiogjdjcocbnaa", sum := "4a975653dc6919a0d1b62c24a6cf72be8e56d947bdbf0d6e08b5fb3e229e7b4e", func := "towline/towlinelaw08.WeaveMerges", spec := "weaveMerges", unfollowed := true, recurses := true, apart := false }
def WeaveMergesSaid : Prop := weaveMergesRow.holds Try.pinned (OpenSpec.ofChange weaveMergesSpec)

/-- ITS FALSE NEIGHBOUR: 'it returns false'. Refute it at one input. -/
def weaveMergesWrong : ChangeSpec := { name := "weaveMerges", fn := fun _ => fun
  | [d1, d2, d3] => { results := [.lit (.bool false)], args := [d1, d2, d3] }
  | _ => none }
def WeaveMergesWrongFalsely : Prop := weaveMergesRow.holds Try.pinned (OpenSpec.ofChange weaveMergesWrong)

/-- 'towlinelaw08.WeaveTexts': WHATEVER THE INPUT: true; the input reads as it did. -/
def weaveTextsSpec : ChangeSpec := { name := "weaveTexts", fn := fun _ => fun
  | [d1, d2, d3] => { results := [.lit (.bool true)], args := [d1, d2, d3] }
  | _ => none }
def weaveTextsRow : OpenClaim := { program := "ytfiogjdjcocbnaa", sum := "4a975653dc6919a0d1b62c24a6cf72be8e56d947bdbf0d6e08b5fb3e229e7b4e", func := "towline/towlinelaw08.WeaveTexts", spec := "weaveTexts", unfollowed := true, recurses := true, apart := false }
def WeaveTextsSaid : Prop := weaveTextsRow.holds Try.pinned (OpenSpec.ofChange weaveTextsSpec)

/-- ITS FALSE NEIGHBOUR: 'it returns false'. Refute it at one input. -/
def weaveTextsWrong : ChangeSpec := { name := "weaveTexts", fn := fun _ => fun
  | [d1, d2, d3] => { results := [.lit (.bool false)], args := [d1, d2, d3] }
  | _ => none }
def WeaveTextsWrongFalsely : Prop := weaveTextsRow.holds Try.pinned (OpenSpec.ofChange weaveTextsWrong)

/-- 'towlinelaw08.WeaveParts': WHATEVER THE INPUT: true; the input reads as it did. -/
def weavePartsSpec : ChangeSpec := { name := "weaveParts", fn := fun _ => fun
  | [d1, d2, d3] => { results := [.lit (.bool true)], args := [d1, d2, d3] }
  | _ => none }
def weavePartsRow : OpenClaim := { program := "ytfiogjdjcocbnaa", sum := "4a975653dc6919a0d1b62c24a6cf72be8e56d947bdbf0d6e08b5fb3e229e7b4e", func := "towline/towlinelaw08.WeaveParts", spec := "weaveParts", unfollowed := true, recurses := true, apart := false }
def WeavePartsSaid : Prop := weavePartsRow.holds Try.pinned (OpenSpec.ofChange weavePartsSpec)

/-- ITS FALSE NEIGHBOUR: 'it returns false'. Refute it at one input. -/
def weavePartsWrong : ChangeSpec := { name := "weaveParts", fn := fun _ => fun
  | [d1, d2, d3] => { results := [.lit (.bool false)], args := [d1, d2, d3] }
  | _ => none }
def WeavePartsWrongFalsely : Prop := weavePartsRow.holds Try.pinned (OpenSpec.ofChange weavePartsWrong)

/-- 'towlinelaw08.WeaveSwap': WHATEVER THE INPUT: true; the input reads as it did. -/
def weaveSwapSpec : ChangeSpec := { name := "weaveSwap", fn := fun _ => fun
  | [d1, d2, d3] => { results := [.lit (.bool true)], args := [d1, d2, d3] }
  | _ => none }
def weaveSwapRow : OpenClaim := { program := "ytfiogjdjcocbnaa", sum := "4a975653dc6919a0d1b62c24a6cf72be8e56d947bdbf0d6e08b5fb3e229e7b4e", func := "towline/towlinelaw08.WeaveSwap", spec := "weaveSwap", unfollowed := true, recurses := true, apart := false }
def WeaveSwapSaid : Prop := weaveSwapRow.holds Try.pinned (OpenSpec.ofChange weaveSwapSpec)

/-- ITS FALSE NEIGHBOUR: 'it returns false'. Refute it at one input. -/
def weaveSwapWrong : ChangeSpec := { name := "weaveSwap", fn := fun _ => fun
  | [d1, d2, d3] => { results := [.lit (.bool false)], args := [d1, d2, d3] }
  | _ => none }
def WeaveSwapWrongFalsely : Prop := weaveSwapRow.holds Try.pinned (OpenSpec.ofChange weaveSwapWrong)

/-- 'towlinelaw08.WeaveSides': WHATEVER THE INPUT: true; the input reads as it did. -/
def weaveSidesSpec : ChangeSpec := { name := "weaveSides", fn := fun _ => fun
  | [d1, d2] => { results := [.lit (.bool true)], args := [d1, d2] }
  | _ => none }
def weaveSidesRow : OpenClaim := { program := "ytfiogjdjcocbnaa", sum := "4a975653dc6919a0d1b62c24a6cf72be8e56d947bdbf0d6e08b5fb3e229e7b4e", func := "towline/towlinelaw08.WeaveSides", spec := "weaveSides", unfollowed := true, recurses := true, apart := false }
def WeaveSidesSaid : Prop := weaveSidesRow.holds Try.pinned (OpenSpec.ofChange weaveSidesSpec)

/-- ITS FALSE NEIGHBOUR: 'it returns false'. Refute it at one input. -/
def weaveSidesWrong : ChangeSpec := { name := "weaveSides", fn := fun _ => fun
  | [d1, d2] => { results := [.lit (.bool false)], args := [d1, d2] }
  | _ => none }
def WeaveSidesWrongFalsely : Prop := weaveSidesRow.holds Try.pinned (OpenSpec.ofChange weaveSidesWrong)

/-- 'towlinelaw08.WeaveApart': WHATEVER THE INPUT: true; the input reads as it did. -/
def weaveApartSpec : ChangeSpec := { name := "weaveApart", fn := fun _ => fun
  | [d1, d2, d3] => { results := [.lit (.bool true)], args := [d1, d2, d3] }
  | _ => none }
def weaveApartRow : OpenClaim := { program := "ytfiogjdjcocbnaa", sum := "4a975653dc6919a0d1b62c24a6cf72be8e56d947bdbf0d6e08b5fb3e229e7b4e", func := "towline/towlinelaw08.WeaveApart", spec := "weaveApart", unfollowed := true, recurses := true, apart := false }
def WeaveApartSaid : Prop := weaveApartRow.holds Try.pinned (OpenSpec.ofChange weaveApartSpec)

/-- ITS FALSE NEIGHBOUR: 'it returns false'. Refute it at one input. -/
def weaveApartWrong : ChangeSpec := { name := "weaveApart", fn := fun _ => fun
  | [d1, d2, d3] => { results := [.lit (.bool false)], args := [d1, d2, d3] }
  | _ => none }
def WeaveApartWrongFalsely : Prop := weaveApartRow.holds Try.pinned (OpenSpec.ofChange weaveApartWrong)

/-- 'towlinelaw08.WeaveMarks': WHATEVER THE INPUT: true; the input reads as it did. -/
def weaveMarksSpec : ChangeSpec := { name := "weaveMarks", fn := fun _ => fun
  | [d1, d2, d3] => { results := [.lit (.bool true)], args := [d1, d2, d3] }
  | _ => none }
def weaveMarksRow : OpenClaim := { program := "ytfiogjdjcocbnaa", sum := "4a975653dc6919a0d1b62c24a6cf72be8e56d947bdbf0d6e08b5fb3e229e7b4e", func := "towline/towlinelaw08.WeaveMarks", spec := "weaveMarks", inPlace := ["internal/bytealg.IndexByte"], unfollowed := true, recurses := true, apart := false }
def WeaveMarksSaid : Prop := weaveMarksRow.holds Try.pinned (OpenSpec.ofChange weaveMarksSpec)

/-- ITS FALSE NEIGHBOUR: 'it returns false'. Refute it at one input. -/
def weaveMarksWrong : ChangeSpec := { name := "weaveMarks", fn := fun _ => fun
  | [d1, d2, d3] => { results := [.lit (.bool false)], args := [d1, d2, d3] }
  | _ => none }
def WeaveMarksWrongFalsely : Prop := weaveMarksRow.holds Try.pinned (OpenSpec.ofChange weaveMarksWrong)

/-- 'towlinelaw08.WeaveAgain': WHATEVER THE INPUT: true; the input reads as it did. -/
def weaveAgainSpec : ChangeSpec := { name := "weaveAgain", fn := fun _ => fun
  | [d1, d2, d3] => { results := [.lit (.bool true)], args := [d1, d2, d3] }
  | _ => none }
def weaveAgainRow : OpenClaim := { program := "ytfiogjdjcocbnaa", sum := "4a975653dc6919a0d1b62c24a6cf72be8e56d947bdbf0d6e08b5fb3e229e7b4e", func := "towline/towlinelaw08.WeaveAgain", spec := "weaveAgain", unfollowed := true, recurses := true, apart := false }
def WeaveAgainSaid : Prop := weaveAgainRow.holds Try.pinned (OpenSpec.ofChange weaveAgainSpec)

/-- ITS FALSE NEIGHBOUR: 'it returns false'. Refute it at one input. -/
def weaveAgainWrong : ChangeSpec := { name := "weaveAgain", fn := fun _ => fun
  | [d1, d2, d3] => { results := [.lit (.bool false)], args := [d1, d2, d3] }
  | _ => none }
def WeaveAgainWrongFalsely : Prop := weaveAgainRow.holds Try.pinned (OpenSpec.ofChange weaveAgainWrong)

/-- 'towlinetop.WholeWeave': WHATEVER THE INPUT: true; the input reads as it did. -/
def wholeWeaveSpec : ChangeSpec := { name := "wholeWeave", fn := fun _ => fun
  | [d1, d2, d3] => { results := [.lit (.bool true)], args := [d1, d2, d3] }
  | _ => none }
def wholeWeaveRow : OpenClaim := { program := "ytfiogjdjcocbnaa", sum := "4a975653dc6919a0d1b62c24a6cf72be8e56d947bdbf0d6e08b5fb3e229e7b4e", func := "towline/towlinetop.WholeWeave", spec := "wholeWeave", inPlace := ["internal/bytealg.IndexByte"], unfollowed := true, recurses := true, apart := false }
def WholeWeaveSaid : Prop := wholeWeaveRow.holds Try.pinned (OpenSpec.ofChange wholeWeaveSpec)

/-- ITS FALSE NEIGHBOUR: 'it returns false'. Refute it at one input. -/
def wholeWeaveWrong : ChangeSpec := { name := "wholeWeave", fn := fun _ => fun
  | [d1, d2, d3] => { results := [.lit (.bool false)], args := [d1, d2, d3] }
  | _ => none }
def WholeWeaveWrongFalsely : Prop := wholeWeaveRow.holds Try.pinned (OpenSpec.ofChange wholeWeaveWrong)

/- THE SECOND FORM. 'bulk': how many values and letters a reading holds, each counted each time it is reached (what is shared counts as often as it is met; a slice's spare places count too). A statement '..UptoSaid' is the law's where the arguments, and the package variables that the reading takes, are together of bulk at most 1048576: NARROWER than '..Said'. Prove '..Said' where nothing that the law and all that it calls make is longer than what came in: it says more and counts as full. Else prove '..UptoSaid'. A law counts once. -/
mutual
def uptoBulk {H : Type} : DataW H → Nat
  | .lit (.string bytes) => bytes.length + 1
  | .lit _ => 1
  | .nil => 1
  | .ptr d => uptoBulk d + 1
  | .slice elems spare => uptoBulkAll elems + uptoBulkAll spare + 1
  | .agg parts => uptoBulkAll parts + 1
  | .iface _ d => uptoBulk d + 1
  | .map entries => uptoBulkEntries entries + 1
  | .held _ => 1
def uptoBulkAll {H : Type} : List (DataW H) → Nat
  | [] => 0
  | d :: r => uptoBulk d + uptoBulkAll r
def uptoBulkEntries {H : Type} : List (Lit × DataW H) → Nat
  | [] => 0
  | x :: r => uptoBulkEntry x + uptoBulkEntries r
def uptoBulkEntry {H : Type} : Lit × DataW H → Nat
  | (.string bytes, d) => bytes.length + uptoBulk d + 1
  | (_, d) => uptoBulk d + 1
 end
def uptoSmall : (H : Type) → List (DataW H) → Bool := fun _ ds => decide (uptoBulkAll ds ≤ 1048576)
def OpenSpec.upto (s : _root_.Go.ChangeSpec) : _root_.Go.OpenSpec := { _root_.Go.OpenSpec.ofChange s with cond := some uptoSmall }

/-- 'towlinelaw07.LinesSplit', WHERE WHAT IT READS IS OF BULK AT MOST 1048576: true; the input reads as it did. -/
def linesSplitUptoRow : OpenClaim := { program := "ytfiogjdjcocbnaa", sum := "4a975653dc6919a0d1b62c24a6cf72be8e56d947bdbf0d6e08b5fb3e229e7b4e", func := "towline/towlinelaw07.LinesSplit", spec := "linesSplit", inPlace := ["internal/bytealg.IndexByte"], unfollowed := true, recurses := true, apart := false, narrowed := true }
def LinesSplitUptoSaid : Prop := linesSplitUptoRow.holds Try.pinned (OpenSpec.upto linesSplitSpec)

/-- 'towlinelaw07.LinesDiffer', WHERE WHAT IT READS IS OF BULK AT MOST 1048576: true; the input reads as it did. -/
def linesDifferUptoRow : OpenClaim := { program := "ytfiogjdjcocbnaa", sum := "4a975653dc6919a0d1b62c24a6cf72be8e56d947bdbf0d6e08b5fb3e229e7b4e", func := "towline/towlinelaw07.LinesDiffer", spec := "linesDiffer", inPlace := ["internal/bytealg.IndexByte"], unfollowed := true, recurses := true, apart := false, narrowed := true }
def LinesDifferUptoSaid : Prop := linesDifferUptoRow.holds Try.pinned (OpenSpec.upto linesDifferSpec)

/-- 'towlinelaw07.LinesPatch', WHERE WHAT IT READS IS OF BULK AT MOST 1048576: true; the input reads as it did. -/
def linesPatchUptoRow : OpenClaim := { program := "ytfiogjdjcocbnaa", sum := "4a975653dc6919a0d1b62c24a6cf72be8e56d947bdbf0d6e08b5fb3e229e7b4e", func := "towline/towlinelaw07.LinesPatch", spec := "linesPatch", inPlace := ["internal/bytealg.IndexByte"], unfollowed := true, recurses := true, apart := false, narrowed := true }
def LinesPatchUptoSaid : Prop := linesPatchUptoRow.holds Try.pinned (OpenSpec.upto linesPatchSpec)

/-- 'towlinelaw07.LinesThere', WHERE WHAT IT READS IS OF BULK AT MOST 1048576: true; the input reads as it did. -/
def linesThereUptoRow : OpenClaim := { program := "ytfiogjdjcocbnaa", sum := "4a975653dc6919a0d1b62c24a6cf72be8e56d947bdbf0d6e08b5fb3e229e7b4e", func := "towline/towlinelaw07.LinesThere", spec := "linesThere", inPlace := ["internal/bytealg.IndexByte"], unfollowed := true, recurses := true, apart := false, narrowed := true }
def LinesThereUptoSaid : Prop := linesThereUptoRow.holds Try.pinned (OpenSpec.upto linesThereSpec)

/-- 'towlinelaw07.LinesLongest', WHERE WHAT IT READS IS OF BULK AT MOST 1048576: true; the input reads as it did. -/
def linesLongestUptoRow : OpenClaim := { program := "ytfiogjdjcocbnaa", sum := "4a975653dc6919a0d1b62c24a6cf72be8e56d947bdbf0d6e08b5fb3e229e7b4e", func := "towline/towlinelaw07.LinesLongest", spec := "linesLongest", inPlace := ["internal/bytealg.IndexByte"], unfollowed := true, recurses := true, apart := false, narrowed := true }
def LinesLongestUptoSaid : Prop := linesLongestUptoRow.holds Try.pinned (OpenSpec.upto linesLongestSpec)

/-- 'towlinelaw07.LinesEnds', WHERE WHAT IT READS IS OF BULK AT MOST 1048576: true; the input reads as it did. -/
def linesEndsUptoRow : OpenClaim := { program := "ytfiogjdjcocbnaa", sum := "4a975653dc6919a0d1b62c24a6cf72be8e56d947bdbf0d6e08b5fb3e229e7b4e", func := "towline/towlinelaw07.LinesEnds", spec := "linesEnds", inPlace := ["internal/bytealg.IndexByte"], unfollowed := true, recurses := true, apart := false, narrowed := true }
def LinesEndsUptoSaid : Prop := linesEndsUptoRow.holds Try.pinned (OpenSpec.upto linesEndsSpec)

/-- 'towlinelaw08.WeaveMerges', WHERE WHAT IT READS IS OF BULK AT MOST 1048576: true; the input reads as it did. -/
def weaveMergesUptoRow : OpenClaim := { program := "ytfiogjdjcocbnaa", sum := "4a975653dc6919a0d1b62c24a6cf72be8e56d947bdbf0d6e08b5fb3e229e7b4e", func := "towline/towlinelaw08.WeaveMerges", spec := "weaveMerges", unfollowed := true, recurses := true, apart := false, narrowed := true }
def WeaveMergesUptoSaid : Prop := weaveMergesUptoRow.holds Try.pinned (OpenSpec.upto weaveMergesSpec)

/-- 'towlinelaw08.WeaveTexts', WHERE WHAT IT READS IS OF BULK AT MOST 1048576: true; the input reads as it did. -/
def weaveTextsUptoRow : OpenClaim := { program := "ytfiogjdjcocbnaa", sum := "4a975653dc6919a0d1b62c24a6cf72be8e56d947bdbf0d6e08b5fb3e229e7b4e", func := "towline/towlinelaw08.WeaveTexts", spec := "weaveTexts", unfollowed := true, recurses := true, apart := false, narrowed := true }
def WeaveTextsUptoSaid : Prop := weaveTextsUptoRow.holds Try.pinned (OpenSpec.upto weaveTextsSpec)

/-- 'towlinelaw08.WeaveParts', WHERE WHAT IT READS IS OF BULK AT MOST 1048576: true; the input reads as it did. -/
def weavePartsUptoRow : OpenClaim := { program := "ytfiogjdjcocbnaa", sum := "4a975653dc6919a0d1b62c24a6cf72be8e56d947bdbf0d6e08b5fb3e229e7b4e", func := "towline/towlinelaw08.WeaveParts", spec := "weaveParts", unfollowed := true, recurses := true, apart := false, narrowed := true }
def WeavePartsUptoSaid : Prop := weavePartsUptoRow.holds Try.pinned (OpenSpec.upto weavePartsSpec)

/-- 'towlinelaw08.WeaveSwap', WHERE WHAT IT READS IS OF BULK AT MOST 1048576: true; the input reads as it did. -/
def weaveSwapUptoRow : OpenClaim := { program := "ytfiogjdjcocbnaa", sum := "4a975653dc6919a0d1b62c24a6cf72be8e56d947bdbf0d6e08b5fb3e229e7b4e", func := "towline/towlinelaw08.WeaveSwap", spec := "weaveSwap", unfollowed := true, recurses := true, apart := false, narrowed := true }
def WeaveSwapUptoSaid : Prop := weaveSwapUptoRow.holds Try.pinned (OpenSpec.upto weaveSwapSpec)

/-- 'towlinelaw08.WeaveSides', WHERE WHAT IT READS IS OF BULK AT MOST 1048576: true; the input reads as it did. -/
def weaveSidesUptoRow : OpenClaim := { program := "ytfiogjdjcocbnaa", sum := "4a975653dc6919a0d1b62c24a6cf72be8e56d947bdbf0d6e08b5fb3e229e7b4e", func := "towline/towlinelaw08.WeaveSides", spec := "weaveSides", unfollowed := true, recurses := true, apart := false, narrowed := true }
def WeaveSidesUptoSaid : Prop := weaveSidesUptoRow.holds Try.pinned (OpenSpec.upto weaveSidesSpec)

/-- 'towlinelaw08.WeaveApart', WHERE WHAT IT READS IS OF BULK AT MOST 1048576: true; the input reads as it did. -/
def weaveApartUptoRow : OpenClaim := { program := "ytfiogjdjcocbnaa", sum := "4a975653dc6919a0d1b62c24a6cf72be8e56d947bdbf0d6e08b5fb3e229e7b4e", func := "towline/towlinelaw08.WeaveApart", spec := "weaveApart", unfollowed := true, recurses := true, apart := false, narrowed := true }
def WeaveApartUptoSaid : Prop := weaveApartUptoRow.holds Try.pinned (OpenSpec.upto weaveApartSpec)

/-- 'towlinelaw08.WeaveMarks', WHERE WHAT IT READS IS OF BULK AT MOST 1048576: true; the input reads as it did. -/
def weaveMarksUptoRow : OpenClaim := { program := "ytfiogjdjcocbnaa", sum := "4a975653dc6919a0d1b62c24a6cf72be8e56d947bdbf0d6e08b5fb3e229e7b4e", func := "towline/towlinelaw08.WeaveMarks", spec := "weaveMarks", inPlace := ["internal/bytealg.IndexByte"], unfollowed := true, recurses := true, apart := false, narrowed := true }
def WeaveMarksUptoSaid : Prop := weaveMarksUptoRow.holds Try.pinned (OpenSpec.upto weaveMarksSpec)

/-- 'towlinelaw08.WeaveAgain', WHERE WHAT IT READS IS OF BULK AT MOST 1048576: true; the input reads as it did. -/
def weaveAgainUptoRow : OpenClaim := { program := "ytfiogjdjcocbnaa", sum := "4a975653dc6919a0d1b62c24a6cf72be8e56d947bdbf0d6e08b5fb3e229e7b4e", func := "towline/towlinelaw08.WeaveAgain", spec := "weaveAgain", unfollowed := true, recurses := true, apart := false, narrowed := true }
def WeaveAgainUptoSaid : Prop := weaveAgainUptoRow.holds Try.pinned (OpenSpec.upto weaveAgainSpec)

/-- 'towlinetop.WholeWeave', WHERE WHAT IT READS IS OF BULK AT MOST 1048576: true; the input reads as it did. -/
def wholeWeaveUptoRow : OpenClaim := { program := "ytfiogjdjcocbnaa", sum := "4a975653dc6919a0d1b62c24a6cf72be8e56d947bdbf0d6e08b5fb3e229e7b4e", func := "towline/towlinetop.WholeWeave", spec := "wholeWeave", inPlace := ["internal/bytealg.IndexByte"], unfollowed := true, recurses := true, apart := false, narrowed := true }
def WholeWeaveUptoSaid : Prop := wholeWeaveUptoRow.holds Try.pinned (OpenSpec.upto wholeWeaveSpec)

end Rows
end Go.Proofs.Ytfiogjdjcocbnaa
