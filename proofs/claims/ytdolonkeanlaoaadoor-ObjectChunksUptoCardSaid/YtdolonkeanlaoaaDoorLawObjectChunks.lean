/- Proved here: the law ObjectChunks returns true, and each argument reads afterwards as it read before. Conditions: those of the given row: the listed package variables hold what the program's own text and Go's own library lay in them, and what the arguments hold is of bulk at most 1048576. -/
import Derived.Test.YtdolonkeanlaoaaDoorObQa
import Derived.Test.YtdolonkeanlaoaaDoorShaEnv
import Derived.Test.YtdolonkeanlaoaaDoorCond
import Derived.Test.YtdolonkeanlaoaaDoorOpen
import Derived.Test.YtdolonkeanlaoaaDoorTie
import Derived.Test.YtdolonkeanlaoaaDoorCards
import Derived.SevenTiedAt
import Derived.Laws.FloatArith
import Derived.Carry
namespace Go.Proofs.YtdolonkeanlaoaaDoor
open Go.ChangeShapes Go.WideShapes Go.ChangeAt Go.RowKit Go.Stop Go.ChangeMaps
set_option maxRecDepth 100000 in
theorem objectChunks_lifted (os : Os) (started : os.Started) (H : Type) (enc : TypeId × Value → H) (F : Stop.Interp) :
    ReturnsInHanded {} Tryd.checked os 3 .any (fun w args => ((Rows.OpenSpec.upto Rows.objectChunksSpec).pre enc Tryd.prog Tryd.f3 [] false w args ∧ laidMetH Tryd.prog laidAll w) ∧ sizedMet enc Tryd.prog Tryd.f3 (Rows.OpenSpec.upto Rows.objectChunksSpec) false w args)
      (((Rows.OpenSpec.upto Rows.objectChunksSpec).at F).post enc Tryd.prog Tryd.f3 false true false false) := by
  refine handed_cond_and (C := Tryd.checked) (s := Rows.OpenSpec.upto Rows.objectChunksSpec) (k := Rows.uptoSmall) rfl (X := fun w _ => laidMetH Tryd.prog laidAll w) (fun _ _ _ hh h => h.of_heap hh) own started (by kernel_rfl) Tryd.func3
    (witness_cond (enc := enc) (C := Tryd.checked) (os := os) (s := Rows.OpenSpec.upto Rows.objectChunksSpec) (k := Rows.uptoSmall) rfl (X := fun w _ => laidMetH Tryd.prog laidAll w) false (World.doorLaid Tryd.prog 400 os) #[.slice none 0 0] 8 rfl (World.shaped_of_RefB (by kernel_rfl) (by kernel_rfl)) (by kernel_rfl) (x := ([.nil], [], [])) (by kernel_rfl) rfl (by kernel_rfl) (by kernel_rfl) (door_met os _)) ?_
  intro W base args ds gs before hval0 hW hk _ hL
  have hval : ∀ (j : Nat) t v, Tryd.f3.params[j]? = some t → args[j]? = some v → Value.okWide Tryd.prog W .any base t v := hval0
  have hW' := hW
  obtain ⟨p, q, hA0, hV, rfl, hfz, hnd⟩ := hW
  have hA : DataW.TrodAll enc Tryd.prog W 0 (fun _ => true) true Tryd.f3.params.toList args.toList ds p := hA0
  rw [Tryd.params3] at hA hval
  obtain ⟨v0, vs0, d0, ds0, p0, q0, hargs, rfl, rfl, h0, r0⟩ := trodAll_cons hA
  obtain ⟨rfl, rfl, rfl⟩ := trodAll_nil r0
  obtain rfl : args = #[v0] := by cases args; simp_all
  obtain ⟨rfl, rfl⟩ := trodVars_none hV
  have hE := env_of_laid hL
  clear hA0 hval0
  simp only [List.append_nil] at hW' hk
  have hk2 := of_decide_eq_true hk
  simp only [Rows.uptoBulkAll] at hk2
  have hltall := hW'.lt
  have lt0 : ∀ x ∈ p0, x.block < W.heap.size := fun x hx => by
    refine hltall x ?_
    exact (by simpa using hx)
  have k0 := h0
  obtain ⟨fu0, tr0⟩ := h0
  obtain ⟨sa0, sn0, sc0, rfl⟩ := slice_of_val Tryd.underlying22 (hval 0 22 v0 rfl rfl)
  obtain ⟨l0, B0, L0⟩ := open_bytes (by simpa [Value.cells] using tr0) lt0
  have L0' : l0.length + 1 ≤ Rows.uptoBulk d0 := L0
  refine (chunks_law _ l0 W B0 (by omega) hE).mono fun e W' ⟨he, hb⟩ => ?_
  subst he
  exact ⟨_, rfl, _, [], _, [], _, [], hW', trodAll_cons_mk (shut_bool Tryd.underlying4 _) trodAll_mk0, (trodAll_cons_mk (Below.trod laidOut (by kernel_rfl) (of_decide_eq_true (by kernel_rfl)) k0 hb lt0) trodAll_mk0), rfl, hb.frame _, fun h => by cases h⟩
theorem objectChunks_holds : Rows.ObjectChunksUptoSaid :=
  OpenClaim.holds_of_cond 3 Tryd.f3 rfl rfl rfl rfl rfl rfl rfl ⟨rfl, rfl, rfl, rfl, rfl⟩ rfl rfl rfl rfl rfl (by kernel_rfl) Tryd.func3 (by kernel_rfl)
    (of_decide_eq_true (by kernel_rfl)) (by unfold Func.isWrapper; first | (rw [if_pos (by decide +kernel)]; kernel_rfl) | (rw [if_neg (by decide +kernel)]; exact ⟨rfl, rfl⟩))
    (fun os started H enc _ F => objectChunks_lifted os started H enc F)
theorem objectChunks_card : Rows.ObjectChunksUptoCardSaid :=
  Claim7.holds_tied_plain_at .later [] [.data, .data] true Rows.objectChunksUptoCard.stood.harness true
    objectChunks_holds (fun _ h => by cases h) (by kernel_rfl) (fun _ h => by cases h) objectChunksUpto_row_tie rfl ⟨rfl, rfl⟩ (by kernel_rfl) rfl
    (fun f fn hf hfn => by
      obtain rfl : f = 3 := Option.some.inj ((show Tryd.prog.funcNamed Rows.objectChunksUptoRow.func = some 3 by kernel_rfl).symm.trans hf) |>.symm
      obtain rfl : fn = Tryd.f3 := (Option.some.inj (Tryd.func3.symm.trans hfn)).symm
      exact ⟨by kernel_rfl, fun j t ht => by
        rw [Tryd.params3] at ht
        have hm : t ∈ [22] := by simpa using Array.mem_of_getElem? ht
        have hall : ([22].all fun u => !Tryd.prog.wantsStandIn u) = true := by kernel_rfl
        exact (show Tryd.prog.wantsStandIn t = false by simpa using List.all_eq_true.1 hall t hm)⟩)
    (by kernel_rfl)
end Go.Proofs.YtdolonkeanlaoaaDoor
