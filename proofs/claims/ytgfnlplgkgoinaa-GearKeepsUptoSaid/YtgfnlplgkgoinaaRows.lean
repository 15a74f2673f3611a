/-
  No cell of these rows narrows 'for every input' (looked for: loops, veiled, ifaces, maps, wideKeys, modest, calm, conditions, laid).
  DERIVED. THE GIVEN ROWS OF THIS SEAT. 5 by the template 'for every input the law returns true; each argument reads behind the call as it read before'; 0 by the template 'total and deterministic' (their statements: YtgfnlplgkgoinaaTotals.lean).
  GIVEN WITH THE SEED: the statements are not yours to turn. If you find one false, say at which input.
  Laid BY PROGRAM, IN A SANDBOX (cutbox-rows.mjs): the forced cells as the released guide's own fill.sh prints them over the translation 5477bbf06c36f32e… (all of the seat's roots in one cut). By AI agents, Wed Nov 11 2026. No macro, syntax, notation, axiom, sorry.
-/
import Derived.Test.YtgfnlplgkgoinaaChecked
import GoSem.Claim
import GoSem.ClaimJoined
import GoSem.ClaimMapViews
import Derived.JoinedTies
import Derived.KernelRfl
namespace Go.Proofs.Ytgfnlplgkgoinaa
/- THE CELL 'sum', in the pinned program and in every row, IS THE sha256 OF THE DUMP (.gsa) THAT YtgfnlplgkgoinaaProg.lean LOADS. Nothing in Lean hashes anything: it is a label: what it is worth is what the hold of that sum in a sandbox is worth. -/
noncomputable def Try.pinned : Pinned := { name := "ytgfnlplgkgoinaa", sum := "5477bbf06c36f32e1d7cc2e19ebba54288877e014457d871a18c7b12fc401547", checked := Try.checked }
namespace Rows
def none {H : Type} : Left H := { results := [], args := [] }

/-- 'towlinelaw04.GearCuts': WHATEVER THE INPUT: true; the input reads as it did. -/
def gearCutsSpec : ChangeSpec := { name := "gearCuts", fn := fun _ => fun
  | [d1, d2] => { results := [.lit (.bool true)], args := [d1, d2] }
  | _ => none }
def gearCutsRow : OpenClaim := { program := "ytgfnlplgkgoinaa", sum := "5477bbf06c36f32e1d7cc2e19ebba54288877e014457d871a18c7b12fc401547", func := "towline/towlinelaw04.GearCuts", spec := "gearCuts", apart := false }
def GearCutsSaid : Prop := gearCutsRow.holds Try.pinned (OpenSpec.ofChange gearCutsSpec)

/-- ITS FALSE NEIGHBOUR: 'it returns false'. Refute it at one input. -/
def gearCutsWrong : ChangeSpec := { name := "gearCuts", fn := fun _ => fun
  | [d1, d2] => { results := [.lit (.bool false)], args := [d1, d2] }
  | _ => none }
def GearCutsWrongFalsely : Prop := gearCutsRow.holds Try.pinned (OpenSpec.ofChange gearCutsWrong)

/-- 'towlinelaw04.GearBounds': WHATEVER THE INPUT: true; the input reads as it did. -/
def gearBoundsSpec : ChangeSpec := { name := "gearBounds", fn := fun _ => fun
  | [d1, d2] => { results := [.lit (.bool true)], args := [d1, d2] }
  | _ => none }
def gearBoundsRow : OpenClaim := { program := "ytgfnlplgkgoinaa", sum := "5477bbf06c36f32e1d7cc2e19ebba54288877e014457d871a18c7b12fc401547", func := "towline/towlinelaw04.GearBounds", spec := "gearBounds", apart := false }
def GearBoundsSaid : Prop := gearBoundsRow.holds Try.pinned (OpenSpec.ofChange gearBoundsSpec)

/-- ITS FALSE NEIGHBOUR: 'it returns false'. Refute it at one input. -/
def gearBoundsWrong : ChangeSpec := { name := "gearBounds", fn := fun _ => fun
  | [d1, d2] => { results := [.lit (.bool false)], args := [d1, d2] }
  | _ => none }
def GearBoundsWrongFalsely : Prop := gearBoundsRow.holds Try.pinned (OpenSpec.ofChange gearBoundsWrong)

/-- 'towlinelaw04.GearAgain': WHATEVER THE INPUT: true; the input reads as it did. -/
def gearAgainSpec : ChangeSpec := { name := "gearAgain", fn := fun _ => fun
  | [d1, d2, d3] => { results := [.lit (.bool true)], args := [d1, d2, d3] }
  | _ => none }
def gearAgainRow : OpenClaim := { program := "ytgfnlplgkgoinaa", sum := "5477bbf06c36f32e1d7cc2e19ebba54288877e014457d871a18c7b12fc401547", func := "towline/towlinelaw04.GearAgain", spec := "gearAgain", apart := false }
def GearAgainSaid : Prop := gearAgainRow.holds Try.pinned (OpenSpec.ofChange gearAgainSpec)

/-- ITS FALSE NEIGHBOUR: 'it returns false'. Refute it at one input. -/
def gearAgainWrong : ChangeSpec := { name := "gearAgain", fn := fun _ => fun
  | [d1, d2, d3] => { results := [.lit (.bool false)], args := [d1, d2, d3] }
  | _ => none }
def GearAgainWrongFalsely : Prop := gearAgainRow.holds Try.pinned (OpenSpec.ofChange gearAgainWrong)

/-- 'towlinelaw04.GearEdit': WHATEVER THE INPUT: true; the input reads as it did. -/
def gearEditSpec : ChangeSpec := { name := "gearEdit", fn := fun _ => fun
  | [d1, d2, d3] => { results := [.lit (.bool true)], args := [d1, d2, d3] }
  | _ => none }
def gearEditRow : OpenClaim := { program := "ytgfnlplgkgoinaa", sum := "5477bbf06c36f32e1d7cc2e19ebba54288877e014457d871a18c7b12fc401547", func := "towline/towlinelaw04.GearEdit", spec := "gearEdit", apart := false }
def GearEditSaid : Prop := gearEditRow.holds Try.pinned (OpenSpec.ofChange gearEditSpec)

/-- ITS FALSE NEIGHBOUR: 'it returns false'. Refute it at one input. -/
def gearEditWrong : ChangeSpec := { name := "gearEdit", fn := fun _ => fun
  | [d1, d2, d3] => { results := [.lit (.bool false)], args := [d1, d2, d3] }
  | _ => none }
def GearEditWrongFalsely : Prop := gearEditRow.holds Try.pinned (OpenSpec.ofChange gearEditWrong)

/-- 'towlinelaw04.GearKeeps': WHATEVER THE INPUT: true; the input reads as it did. -/
def gearKeepsSpec : ChangeSpec := { name := "gearKeeps", fn := fun _ => fun
  | [d1, d2] => { results := [.lit (.bool true)], args := [d1, d2] }
  | _ => none }
def gearKeepsRow : OpenClaim := { program := "ytgfnlplgkgoinaa", sum := "5477bbf06c36f32e1d7cc2e19ebba54288877e014457d871a18c7b12fc401547", func := "towline/towlinelaw04.GearKeeps", spec := "gearKeeps", apart := false }
def GearKeepsSaid : Prop := gearKeepsRow.holds Try.pinned (OpenSpec.ofChange gearKeepsSpec)

/-- ITS FALSE NEIGHBOUR: 'it returns false'. Refute it at one input. -/
def gearKeepsWrong : ChangeSpec := { name := "gearKeeps", fn := fun _ => fun
  | [d1, d2] => { results := [.lit (.bool false)], args := [d1, d2] }
  | _ => none }
def GearKeepsWrongFalsely : Prop := gearKeepsRow.holds Try.pinned (OpenSpec.ofChange gearKeepsWrong)

/- THE SECOND FORM. 'bulk': how many values and letters a reading holds, each counted each time it is reached (what is shared counts as often as it is met; a slice's spare places count too). A statement '..UptoSaid' is the law's where the arguments, and the package variables that the reading takes, are together of bulk at most 1048576: NARROWER than '..Said'. Prove '..Said' where nothing that the law and all that it calls make is longer than what came in: it says more and counts as full. Else prove '..UptoSaid'. A law counts once. -/
mutual
def uptoBulk {H : Type} : DataW H → Nat
  | .lit (.string bytes) => bytes.length + 1
  | .lit _ => 1
  | .nil => 1
  | .ptr d => uptoBulk d + 1
  | .slice elems spare => uptoBulkAll elems + uptoBulkAll spare + 1
  | .agg parts => uptoBulkAll parts + 1
  | .iface _ d => uptoBulk d + 1
  | .map entries => uptoBulkEntries entries + 1
  | .held _ => 1
def uptoBulkAll {H : Type} : List (DataW H) → Nat
  | [] => 0
  | d :: r => uptoBulk d + uptoBulkAll r
def uptoBulkEntries {H : Type} : List (Lit × DataW H) → Nat
  | [] => 0
  | x :: r => uptoBulkEntry x + uptoBulkEntries r
def uptoBulkEntry {H : Type} : Lit × DataW H → Nat
  | (.string bytes, d) => bytes.length + uptoBulk d + 1
  | (_, d) => uptoBulk d + 1
 end
def uptoSmall : (H : Type) → List (DataW H) → Bool := fun _ ds => decide (uptoBulkAll ds ≤ 1048576)
def OpenSpec.upto (s : _root_.Go.ChangeSpec) : _root_.Go.OpenSpec := { _root_.Go.OpenSpec.ofChange s with cond := some uptoSmall }

/-- 'towlinelaw04.GearCuts', WHERE WHAT IT READS IS OF BULK AT MOST 1048576: true; the input reads as it did. -/
def gearCutsUptoRow : OpenClaim := { program := "ytgfnlplgkgoinaa", sum := "5477bbf06c36f32e1d7cc2e19ebba54288877e014457d871a18c7b12fc401547", func := "towline/towlinelaw04.GearCuts", spec := "gearCuts", apart := false, narrowed := true }
def GearCutsUptoSaid : Prop := gearCutsUptoRow.holds Try.pinned (OpenSpec.upto gearCutsSpec)

/-- 'towlinelaw04.GearBounds', WHERE WHAT IT READS IS OF BULK AT MOST 1048576: true; the input reads as it did. -/
def gearBoundsUptoRow : OpenClaim := { program := "ytgfnlplgkgoinaa", sum := "5477bbf06c36f32e1d7cc2e19ebba54288877e014457d871a18c7b12fc401547", func := "towline/towlinelaw04.GearBounds", spec := "gearBounds", apart := false, narrowed := true }
def GearBoundsUptoSaid : Prop := gearBoundsUptoRow.holds Try.pinned (OpenSpec.upto gearBoundsSpec)

/-- 'towlinelaw04.GearAgain', WHERE WHAT IT READS IS OF BULK AT MOST 1048576: true; the input reads as it did. -/
def gearAgainUptoRow : OpenClaim := { program := "ytgfnlplgkgoinaa", sum := "5477bbf06c36f32e1d7cc2e19ebba54288877e014457d871a18c7b12fc401547", func := "towline/towlinelaw04.GearAgain", spec := "gearAgain", apart := false, narrowed := true }
def GearAgainUptoSaid : Prop := gearAgainUptoRow.holds Try.pinned (OpenSpec.upto gearAgainSpec)

/-- 'towlinelaw04.GearEdit', WHERE WHAT IT READS IS OF BULK AT MOST 1048576: true; the input reads as it did. -/
def gearEditUptoRow : OpenClaim := { program := "ytgfnlplgkgoinaa", sum := "5477bbf06c36f32e1d7cc2e19ebba54288877e014457d871a18c7b12fc401547", func := "towline/towlinelaw04.GearEdit", spec := "gearEdit", apart := false, narrowed := true }
def GearEditUptoSaid : Prop := gearEditUptoRow.holds Try.pinned (OpenSpec.upto gearEditSpec)

/-- 'towlinelaw04.GearKeeps', WHERE WHAT IT READS IS OF BULK AT MOST 1048576: true; the input reads as it did. -/
def gearKeepsUptoRow : OpenClaim := { program := "ytgfnlplgkgoinaa", sum := "5477bbf06c36f32e1d7cc2e19ebba54288877e014457d871a18c7b12fc401547", func := "towline/towlinelaw04.GearKeeps", spec := "gearKeeps", apart := false, narrowed := true }
def GearKeepsUptoSaid : Prop := gearKeepsUptoRow.holds Try.pinned (OpenSpec.upto gearKeepsSpec)

end Rows
end Go.Proofs.Ytgfnlplgkgoinaa
