/- From the rows' condition to what the walks ask of the world; the world in which the program has begun. -/
import Derived.Test.YtgknihcpmpfocaaDoorPathAll
import Derived.Test.YtgknihcpmpfocaaDoorShaHK
import Derived.ProofKit
import Derived.LaidMore
import Derived.OpenShut
import Derived.JoinedCond
import Derived.ShapedOpen
import Derived.Stop.Joined
import Derived.Stop.LaidErr
import Derived.Lib.LaidTab
namespace Go.Proofs.YtgknihcpmpfocaaDoor
open Go.ChangeShapes Go.WideShapes Go.ChangeAt Go.WideMaps Go.WideElems Go.RowKit Go.Stop

theorem own5 : ownKnob Tryd.prog.godebug = none := by kernel_rfl
theorem laidOut5 : laidOutB Tryd.prog = true := by kernel_rfl
def laidAll5 : List (String × DataW Unit) := [("unicode/utf8.acceptRanges", Rows.laid_unicode_utf8_acceptRanges), ("towline/sha.first", Rows.laid_towline_sha_first), ("towline/sha.rounds", Rows.laid_towline_sha_rounds), ("unicode/utf8.first", Rows.laid_unicode_utf8_first)]
theorem dfirst : (Rows.laid_towline_sha_first : DataW Unit) = Lib.tabData .u32 (startL.map fun n : Nat => (n : Int)) := by kernel_rfl
theorem drounds : (Rows.laid_towline_sha_rounds : DataW Unit) = Lib.tabData .u32 (partsL.map fun n : Nat => (n : Int)) := by kernel_rfl
theorem env_of_laid {W : World} (h0 : laidMetH Tryd.prog laidAll5 W) : Env W := by
  have h1 : laidMet Tryd.prog laidAll5 W := by
    rw [MakeChecks.laidMetH_plain _ _ _ (by kernel_rfl)] at h0; exact h0
  unfold laidAll5 at h1
  replace h1 := h1.tail
  have t1 := h1.tail
  rw [dfirst] at h1
  rw [drounds] at t1
  have f0 := Lib.tabIs_of_head (g := 0) (t := 86) (e := 85) (n := 8) (by kernel_rfl) (by kernel_rfl) Tryd.underlying86 Tryd.underlying85 (by kernel_rfl) (by kernel_rfl) h1
  have f1 := Lib.tabIs_of_head (g := 1) (t := 104) (e := 85) (n := 64) (by kernel_rfl) (by kernel_rfl) Tryd.underlying104 Tryd.underlying85 (by kernel_rfl) (by kernel_rfl) t1
  have c1 := f1.cell (g := 1) (by kernel_rfl) 0 (by decide)
  refine ⟨fun j hj => ?_, fun j hj => ?_, ?_⟩
  · have := f0.cell (g := 0) (by kernel_rfl) j (by rw [List.length_map]; exact hj)
    rw [this]
    simp [List.getD, List.getElem?_map]
    have hl : j < startL.length := hj
    rw [List.getElem?_eq_getElem hl]; simp
  · have := f1.cell (g := 1) (by kernel_rfl) j (by rw [List.length_map]; exact hj)
    rw [this]
    simp [List.getD, List.getElem?_map]
    have hl : j < partsL.length := hj
    rw [List.getElem?_eq_getElem hl]; simp
  · exact World.block_lt_of_cell? _ _ c1
theorem penv_of_shape {W : World} (h : W.ShapedOpen Tryd.prog) : PEnv W := Tryd.laysM146.s1_3 W h
/-- A start for the witness: the heap that the door's own run leaves, the library's own table laid in it. -/
noncomputable def pinLaid (os : Os) : World := (World.doorLaid Tryd.prog 400 os).setRow 3 (Go.Pinned.utf8FirstZ.map fun n : Nat => Value.int .u8 (n : Int)).toArray
theorem door_met5 (os : Os) (args : Array Value) : laidMetH Tryd.prog laidAll5 ((pinLaid os).forCall (fun _ _ => 0) ⟨#[], args, []⟩).memory :=
  laidMetH_of_parts3 (fuel := 8) (laidMet_of_run' 8 (by kernel_rfl) (by kernel_rfl)) (by kernel_rfl) (by kernel_rfl)
theorem pin_shaped (os : Os) (args : Array Value) : ((pinLaid os).forCall (fun _ _ => 0) ⟨#[], args, []⟩).Shaped Tryd.prog := World.shaped_of_RefB (by kernel_rfl) (by kernel_rfl)
section
variable {H : Type} {enc : TypeId × Value → H}
theorem handed_cond_and {a : Assume} {C : Checked} {os : Os} {f : FuncId} {fn : Func} {s : OpenSpec} {k : (H : Type) → List (DataW H) → Bool} (hk : s.cond = some k) {F : Stop.Interp} {conds : List PathCond} {apart fresh handsOn again : Bool} {X : World → Array Value → Prop}
    (hX : ∀ (w w' : World) (args : Array Value), w.heap = w'.heap → X w args → X w' args)
    (own : ownKnob C.prog.godebug = none) (started : os.Started) (noInit : C.prog.inits.idxOf? f = none) (hfn : C.prog.funcs[f]? = some fn)
    (witness : ∃ (w : World) (tape : Tape) (i : Input), w.os = os ∧ (w.forCall tape i).Shaped C.prog ∧ i.vars = [] ∧ Input.okWide C.prog (w.forCall tape i) .any w.heap.size f i ∧
      ((s.pre enc C.prog fn conds apart (w.forCall tape i).memory i.args ∧ X (w.forCall tape i).memory i.args) ∧ sizedMet enc C.prog fn s apart (w.forCall tape i).memory i.args) ∧ a.holds C.prog (lone (Frame.enter C.prog f i.args .normal) [] (w.forCall tape i)))
    (contract : ∀ (W : World) (base : Nat) (args : Array Value) (ds gs : List (DataW H)) (before : List MemPlace),
      (∀ (j : Nat) t v, fn.params[j]? = some t → args[j]? = some v → Value.okWide C.prog W .any base t v) →
      DataW.Whole enc C.prog fn.params.toList s.vars apart W args.toList ds gs before → k H (ds ++ gs) = true → W.ShapedOpen C.prog → X W args →
      Calls C.prog f args W fun e W' => ∃ v, e = .returned v ∧ (s.at F).post enc C.prog fn apart fresh handsOn again W args v W') :
    ReturnsInHanded a C os f .any (fun w args => (s.pre enc C.prog fn conds apart w args ∧ X w args) ∧ sizedMet enc C.prog fn s apart w args) ((s.at F).post enc C.prog fn apart fresh handsOn again) := by
  refine returnsInHanded_of_calls own started noInit witness ?_
  intro w tape i _ hsh _ hok hpre _
  obtain ⟨_, _, _, fn', hfn', _, _, _, _, hval⟩ := hok
  have e : fn' = fn := Option.some.inj (hfn'.symm.trans hfn)
  subst e
  obtain ⟨ds, gs, before, hw, _, hkk⟩ := (OpenSpec.pre_some hk conds apart _ _).1 hpre.1.1
  have hw' := DataW.Whole.of_heap (w' := w.forCall tape i) (by rfl) hw
  refine (contract (w.forCall tape i) w.heap.size i.args ds gs before hval hw' hkk hsh (hX _ _ _ (by rfl) hpre.1.2)).mono fun e W' ⟨v, he, hp⟩ => ?_
  subst he
  exact ChangeSpec.post_blind hp
theorem witness_cond {C : Checked} {os : Os} {f : FuncId} {fn : Func} {s : OpenSpec} {k : (H : Type) → List (DataW H) → Bool} (hk : s.cond = some k) {conds : List PathCond} {apart : Bool} {X : World → Array Value → Prop} (modest : Bool) (w0 : World) (args : Array Value) (fuel : Nat) (hos : w0.os = os)
    (hsh : (w0.forCall (fun _ _ => 0) ⟨#[], args, []⟩).Shaped C.prog)
    (hok : Input.okWideB C.prog (w0.forCall (fun _ _ => 0) ⟨#[], args, []⟩) f ⟨#[], args, []⟩ = true)
    {x : List (DataW H) × List (DataW H) × List MemPlace} (hx : DataW.whole enc C.prog (w0.forCall (fun _ _ => 0) ⟨#[], args, []⟩).memory fn.params.toList s.vars apart args.toList fuel = some x)
    (hconds : conds.all (PathCond.test C.prog ⟨fn.params.toList, x.1, s.bare.plain.varTypes C.prog, x.2.1⟩) = true) (hkk : k H (x.1 ++ x.2.1) = true)
    (hsz : s.bare.sizedB enc C.prog fn apart (w0.forCall (fun _ _ => 0) ⟨#[], args, []⟩).memory args fuel = true)
    (hX : X (w0.forCall (fun _ _ => 0) ⟨#[], args, []⟩).memory args) :
    ∃ (w : World) (tape : Tape) (i : Input), w.os = os ∧ (w.forCall tape i).Shaped C.prog ∧ i.vars = [] ∧ Input.okWide C.prog (w.forCall tape i) .any w.heap.size f i ∧
      ((s.pre enc C.prog fn conds apart (w.forCall tape i).memory i.args ∧ X (w.forCall tape i).memory i.args) ∧ sizedMet enc C.prog fn s apart (w.forCall tape i).memory i.args) ∧ ({ modest := modest } : Assume).holds C.prog (lone (Frame.enter C.prog f i.args .normal) [] (w.forCall tape i)) :=
  ⟨w0, fun _ _ => 0, ⟨#[], args, []⟩, hos, hsh, (Input.okWide_of_okWideB (base := 0) hok).1, (Input.okWide_of_okWideB hok).2,
    ⟨⟨(OpenSpec.pre_some hk conds apart _ _).2 ⟨x.1, x.2.1, x.2.2, DataW.Whole_of_whole hx, hconds, hkk⟩, hX⟩, sizedMet_of_sizedB hsz⟩, by
    simp only [Assume.holds]
    exact ⟨by simp, by simp, fun _ => Modest.zero, by simp, by simp⟩⟩
end
end Go.Proofs.YtgknihcpmpfocaaDoor
