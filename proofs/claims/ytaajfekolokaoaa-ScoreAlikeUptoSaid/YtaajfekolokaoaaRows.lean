/-
  No cell of these rows narrows 'for every input' (looked for: loops, veiled, ifaces, maps, wideKeys, modest, calm, conditions, laid).
  DERIVED. THE GIVEN ROWS OF THIS SEAT. 5 by the template 'for every input the law returns true; each argument reads behind the call as it read before'; 0 by the template 'total and deterministic' (their statements: YtaajfekolokaoaaTotals.lean).
  GIVEN WITH THE SEED: the statements are not yours to turn. If you find one false, say at which input.
  Laid BY PROGRAM, IN A SANDBOX (cutbox-rows.mjs): the forced cells as the released guide's own fill.sh prints them over the translation c37752088dd5c17b… (all of the seat's roots in one cut). By AI agents, Wed Nov 11 2026. No macro, syntax, notation, axiom, sorry.
-/
import Derived.Test.YtaajfekolokaoaaChecked
import GoSem.Claim
import GoSem.ClaimJoined
import GoSem.ClaimMapViews
import Derived.JoinedTies
import Derived.KernelRfl
namespace Go.Proofs.Ytaajfekolokaoaa
/- THE CELL 'sum', in the pinned program and in every row, IS THE sha256 OF THE DUMP (.gsa) THAT YtaajfekolokaoaaProg.lean LOADS. Nothing in Lean hashes anything: it is a label: what it is worth is what the hold of that sum in a sandbox is worth. -/
noncomputable def Try.pinned : Pinned := { name := "ytaajfekolokaoaa", sum := "c37752088dd5c17b44d407c05279e8028df4f0cff899c057fbd8151aed79d972", checked := Try.checked }
namespace Rows
def none {H : Type} : Left H := { results := [], args := [] }

/-- 'towlinelaw12.ScoreAlike': WHATEVER THE INPUT: true; the input reads as it did. -/
def scoreAlikeSpec : ChangeSpec := { name := "scoreAlike", fn := fun _ => fun
  | [d1, d2] => { results := [.lit (.bool true)], args := [d1, d2] }
  | _ => none }
def scoreAlikeRow : OpenClaim := { program := "ytaajfekolokaoaa", sum := "c37752088dd5c17b44d407c05279e8028df4f0cff899c057fbd8151aed79d972", func := "towline/towlinelaw12.ScoreAlike", spec := "scoreAlike", inPlace := ["math.Float64frombits", "math.Float64bits"], unfollowed := true, recurses := true, apart := false }
def ScoreAlikeSaid : Prop := scoreAlikeRow.holds Try.pinned (OpenSpec.ofChange scoreAlikeSpec)

/-- ITS FALSE NEIGHBOUR: 'it returns false'. Refute it at one input. -/
def scoreAlikeWrong : ChangeSpec := { name := "scoreAlike", fn := fun _ => fun
  | [d1, d2] => { results := [.lit (.bool false)], args := [d1, d2] }
  | _ => none }
def ScoreAlikeWrongFalsely : Prop := scoreAlikeRow.holds Try.pinned (OpenSpec.ofChange scoreAlikeWrong)

/-- 'towlinelaw12.ScoreMoves': WHATEVER THE INPUT: true; the input reads as it did. -/
def scoreMovesSpec : ChangeSpec := { name := "scoreMoves", fn := fun _ => fun
  | [d1, d2, d3] => { results := [.lit (.bool true)], args := [d1, d2, d3] }
  | _ => none }
def scoreMovesRow : OpenClaim := { program := "ytaajfekolokaoaa", sum := "c37752088dd5c17b44d407c05279e8028df4f0cff899c057fbd8151aed79d972", func := "towline/towlinelaw12.ScoreMoves", spec := "scoreMoves", inPlace := ["math.Float64frombits", "math.Float64bits"], unfollowed := true, recurses := true, apart := false }
def ScoreMovesSaid : Prop := scoreMovesRow.holds Try.pinned (OpenSpec.ofChange scoreMovesSpec)

/-- ITS FALSE NEIGHBOUR: 'it returns false'. Refute it at one input. -/
def scoreMovesWrong : ChangeSpec := { name := "scoreMoves", fn := fun _ => fun
  | [d1, d2, d3] => { results := [.lit (.bool false)], args := [d1, d2, d3] }
  | _ => none }
def ScoreMovesWrongFalsely : Prop := scoreMovesRow.holds Try.pinned (OpenSpec.ofChange scoreMovesWrong)

/-- 'towlinelaw12.ScoreRange': WHATEVER THE INPUT: true; the input reads as it did. -/
def scoreRangeSpec : ChangeSpec := { name := "scoreRange", fn := fun _ => fun
  | [d1, d2] => { results := [.lit (.bool true)], args := [d1, d2] }
  | _ => none }
def scoreRangeRow : OpenClaim := { program := "ytaajfekolokaoaa", sum := "c37752088dd5c17b44d407c05279e8028df4f0cff899c057fbd8151aed79d972", func := "towline/towlinelaw12.ScoreRange", spec := "scoreRange", inPlace := ["math.Float64frombits", "math.Float64bits"], unfollowed := true, recurses := true, apart := false }
def ScoreRangeSaid : Prop := scoreRangeRow.holds Try.pinned (OpenSpec.ofChange scoreRangeSpec)

/-- ITS FALSE NEIGHBOUR: 'it returns false'. Refute it at one input. -/
def scoreRangeWrong : ChangeSpec := { name := "scoreRange", fn := fun _ => fun
  | [d1, d2] => { results := [.lit (.bool false)], args := [d1, d2] }
  | _ => none }
def ScoreRangeWrongFalsely : Prop := scoreRangeRow.holds Try.pinned (OpenSpec.ofChange scoreRangeWrong)

/-- 'towlinelaw12.ScoreOnce': WHATEVER THE INPUT: true; the input reads as it did. -/
def scoreOnceSpec : ChangeSpec := { name := "scoreOnce", fn := fun _ => fun
  | [d1, d2, d3] => { results := [.lit (.bool true)], args := [d1, d2, d3] }
  | _ => none }
def scoreOnceRow : OpenClaim := { program := "ytaajfekolokaoaa", sum := "c37752088dd5c17b44d407c05279e8028df4f0cff899c057fbd8151aed79d972", func := "towline/towlinelaw12.ScoreOnce", spec := "scoreOnce", inPlace := ["math.Float64frombits", "math.Float64bits"], unfollowed := true, recurses := true, apart := false }
def ScoreOnceSaid : Prop := scoreOnceRow.holds Try.pinned (OpenSpec.ofChange scoreOnceSpec)

/-- ITS FALSE NEIGHBOUR: 'it returns false'. Refute it at one input. -/
def scoreOnceWrong : ChangeSpec := { name := "scoreOnce", fn := fun _ => fun
  | [d1, d2, d3] => { results := [.lit (.bool false)], args := [d1, d2, d3] }
  | _ => none }
def ScoreOnceWrongFalsely : Prop := scoreOnceRow.holds Try.pinned (OpenSpec.ofChange scoreOnceWrong)

/-- 'towlinelaw12.ScoreMiddle': WHATEVER THE INPUT: true; the input reads as it did. -/
def scoreMiddleSpec : ChangeSpec := { name := "scoreMiddle", fn := fun _ => fun
  | [d1, d2] => { results := [.lit (.bool true)], args := [d1, d2] }
  | _ => none }
def scoreMiddleRow : OpenClaim := { program := "ytaajfekolokaoaa", sum := "c37752088dd5c17b44d407c05279e8028df4f0cff899c057fbd8151aed79d972", func := "towline/towlinelaw12.ScoreMiddle", spec := "scoreMiddle", inPlace := ["math.Float64frombits", "math.Float64bits"], unfollowed := true, recurses := true, apart := false }
def ScoreMiddleSaid : Prop := scoreMiddleRow.holds Try.pinned (OpenSpec.ofChange scoreMiddleSpec)

/-- ITS FALSE NEIGHBOUR: 'it returns false'. Refute it at one input. -/
def scoreMiddleWrong : ChangeSpec := { name := "scoreMiddle", fn := fun _ => fun
  | [d1, d2] => { results := [.lit (.bool false)], args := [d1, d2] }
  | _ => none }
def ScoreMiddleWrongFalsely : Prop := scoreMiddleRow.holds Try.pinned (OpenSpec.ofChange scoreMiddleWrong)

/- THE SECOND FORM. 'bulk': how many values and letters a reading holds, each counted each time it is reached (what is shared counts as often as it is met; a slice's spare places count too). A statement '..UptoSaid' is the law's where the arguments, and the package variables that the reading takes, are together of bulk at most 1048576: NARROWER than '..Said'. Prove '..Said' where nothing that the law and all that it calls make is longer than what came in: it says more and counts as full. Else prove '..UptoSaid'. A law counts once. -/
mutual
def uptoBulk {H : Type} : DataW H → Nat
  | .lit (.string bytes) => bytes.length + 1
  | .lit _ => 1
  | .nil => 1
  | .ptr d => uptoBulk d + 1
  | .slice elems spare => uptoBulkAll elems + uptoBulkAll spare + 1
  | .agg parts => uptoBulkAll parts + 1
  | .iface _ d => uptoBulk d + 1
  | .map entries => uptoBulkEntries entries + 1
  | .held _ => 1
def uptoBulkAll {H : Type} : List (DataW H) → Nat
  | [] => 0
  | d :: r => uptoBulk d + uptoBulkAll r
def uptoBulkEntries {H : Type} : List (Lit × DataW H) → Nat
  | [] => 0
  | x :: r => uptoBulkEntry x + uptoBulkEntries r
def uptoBulkEntry {H : Type} : Lit × DataW H → Nat
  | (.string bytes, d) => bytes.length + uptoBulk d + 1
  | (_, d) => uptoBulk d + 1
 end
def uptoSmall : (H : Type) → List (DataW H) → Bool := fun _ ds => decide (uptoBulkAll ds ≤ 1048576)
def OpenSpec.upto (s : _root_.Go.ChangeSpec) : _root_.Go.OpenSpec := { _root_.Go.OpenSpec.ofChange s with cond := some uptoSmall }

/-- 'towlinelaw12.ScoreAlike', WHERE WHAT IT READS IS OF BULK AT MOST 1048576: true; the input reads as it did. -/
def scoreAlikeUptoRow : OpenClaim := { program := "ytaajfekolokaoaa", sum := "c37752088dd5c17b44d407c05279e8028df4f0cff899c057fbd8151aed79d972", func := "towline/towlinelaw12.ScoreAlike", spec := "scoreAlike", inPlace := ["math.Float64frombits", "math.Float64bits"], unfollowed := true, recurses := true, apart := false, narrowed := true }
def ScoreAlikeUptoSaid : Prop := scoreAlikeUptoRow.holds Try.pinned (OpenSpec.upto scoreAlikeSpec)

/-- 'towlinelaw12.ScoreMoves', WHERE WHAT IT READS IS OF BULK AT MOST 1048576: true; the input reads as it did. -/
def scoreMovesUptoRow : OpenClaim := { program := "ytaajfekolokaoaa", sum := "c37752088dd5c17b44d407c05279e8028df4f0cff899c057fbd8151aed79d972", func := "towline/towlinelaw12.ScoreMoves", spec := "scoreMoves", inPlace := ["math.Float64frombits", "math.Float64bits"], unfollowed := true, recurses := true, apart := false, narrowed := true }
def ScoreMovesUptoSaid : Prop := scoreMovesUptoRow.holds Try.pinned (OpenSpec.upto scoreMovesSpec)

/-- 'towlinelaw12.ScoreRange', WHERE WHAT IT READS IS OF BULK AT MOST 1048576: true; the input reads as it did. -/
def scoreRangeUptoRow : OpenClaim := { program := "ytaajfekolokaoaa", sum := "c37752088dd5c17b44d407c05279e8028df4f0cff899c057fbd8151aed79d972", func := "towline/towlinelaw12.ScoreRange", spec := "scoreRange", inPlace := ["math.Float64frombits", "math.Float64bits"], unfollowed := true, recurses := true, apart := false, narrowed := true }
def ScoreRangeUptoSaid : Prop := scoreRangeUptoRow.holds Try.pinned (OpenSpec.upto scoreRangeSpec)

/-- 'towlinelaw12.ScoreOnce', WHERE WHAT IT READS IS OF BULK AT MOST 1048576: true; the input reads as it did. -/
def scoreOnceUptoRow : OpenClaim := { program := "ytaajfekolokaoaa", sum := "c37752088dd5c17b44d407c05279e8028df4f0cff899c057fbd8151aed79d972", func := "towline/towlinelaw12.ScoreOnce", spec := "scoreOnce", inPlace := ["math.Float64frombits", "math.Float64bits"], unfollowed := true, recurses := true, apart := false, narrowed := true }
def ScoreOnceUptoSaid : Prop := scoreOnceUptoRow.holds Try.pinned (OpenSpec.upto scoreOnceSpec)

/-- 'towlinelaw12.ScoreMiddle', WHERE WHAT IT READS IS OF BULK AT MOST 1048576: true; the input reads as it did. -/
def scoreMiddleUptoRow : OpenClaim := { program := "ytaajfekolokaoaa", sum := "c37752088dd5c17b44d407c05279e8028df4f0cff899c057fbd8151aed79d972", func := "towline/towlinelaw12.ScoreMiddle", spec := "scoreMiddle", inPlace := ["math.Float64frombits", "math.Float64bits"], unfollowed := true, recurses := true, apart := false, narrowed := true }
def ScoreMiddleUptoSaid : Prop := scoreMiddleUptoRow.holds Try.pinned (OpenSpec.upto scoreMiddleSpec)

end Rows
end Go.Proofs.Ytaajfekolokaoaa
