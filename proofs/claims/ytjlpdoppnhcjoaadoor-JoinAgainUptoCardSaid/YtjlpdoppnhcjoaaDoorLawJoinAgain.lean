/- Proved here: the law JoinAgain returns true, and each argument reads afterwards as it read before. Conditions: those of the given row: the listed package variables hold what the program's own text and Go's own library lay in them, and what the arguments hold is of bulk at most 1048576. -/
import Derived.Test.YtjlpdoppnhcjoaaDoorJnZc
import Derived.Test.YtjlpdoppnhcjoaaDoorJnOpenAll
import Derived.Test.YtjlpdoppnhcjoaaDoorJnEnv
import Derived.Test.YtjlpdoppnhcjoaaDoorTie
import Derived.Test.YtjlpdoppnhcjoaaDoorCards
import Derived.SevenTiedAt
import Derived.Laws.FloatArith
import Derived.Carry
namespace Go.Proofs.YtjlpdoppnhcjoaaDoor
open Go.ChangeShapes Go.WideShapes Go.ChangeAt Go.RowKit Go.Stop Go.ChangeMaps
set_option maxRecDepth 100000 in
theorem joinAgain_lifted (os : Os) (started : os.Started) (H : Type) (enc : TypeId × Value → H) (F : Stop.Interp) :
    ReturnsInHanded {} Tryd.checked os 6 .any (fun w args => ((Rows.OpenSpec.upto Rows.joinAgainSpec).pre enc Tryd.prog Tryd.f6 [] false w args ∧ laidMetH Tryd.prog laidAll5 w) ∧ sizedMet enc Tryd.prog Tryd.f6 (Rows.OpenSpec.upto Rows.joinAgainSpec) false w args)
      (((Rows.OpenSpec.upto Rows.joinAgainSpec).at F).post enc Tryd.prog Tryd.f6 false true false false) := by
  refine handed_cond_and (C := Tryd.checked) (s := Rows.OpenSpec.upto Rows.joinAgainSpec) (k := Rows.uptoSmall) rfl (X := fun w _ => laidMetH Tryd.prog laidAll5 w) (fun _ _ _ hh h => h.of_heap hh) own5 started (by kernel_rfl) Tryd.func6
    (witness_cond (enc := enc) (C := Tryd.checked) (os := os) (s := Rows.OpenSpec.upto Rows.joinAgainSpec) (k := Rows.uptoSmall) rfl (X := fun w _ => laidMetH Tryd.prog laidAll5 w) false (pinLaid os) #[.agg #[.slice none 0 0, .slice none 0 0, .slice none 0 0]] 8 rfl (pin_shaped os _) (by kernel_rfl) (x := ([.agg [.nil, .nil, .nil]], [], [])) (by kernel_rfl) rfl (by kernel_rfl) (by kernel_rfl) (door_met5 os _)) ?_
  intro W base args ds gs before hval0 hW hk hsh _
  have hval : ∀ (j : Nat) t v, Tryd.f6.params[j]? = some t → args[j]? = some v → Value.okWide Tryd.prog W .any base t v := hval0
  have hW' := hW
  obtain ⟨p, q, hA0, hV, rfl, hfz, hnd⟩ := hW
  have hA : DataW.TrodAll enc Tryd.prog W 0 (fun _ => true) true Tryd.f6.params.toList args.toList ds p := hA0
  rw [Tryd.params6] at hA hval
  obtain ⟨v0, vs0, d0, ds0, p0, q0, hargs, rfl, rfl, h0, r0⟩ := trodAll_cons hA
  obtain ⟨rfl, rfl, rfl⟩ := trodAll_nil r0
  obtain rfl : args = #[v0] := by cases args; simp_all
  obtain ⟨rfl, rfl⟩ := trodVars_none hV
  have hE := penv_of_shape hsh
  clear hA0 hval0
  simp only [List.append_nil] at hW' hk
  have hk2 := of_decide_eq_true hk
  simp only [Rows.uptoBulkAll] at hk2
  have hltall := hW'.lt
  have lt0 : ∀ x ∈ p0, x.block < W.heap.size := fun x hx => by
    refine hltall x ?_
    exact (by simpa using hx)
  have k0 := h0
  obtain ⟨fu0, tr0⟩ := h0
  obtain ⟨a0, c0, l0, rfl, B0, L0⟩ := open_left (hval 0 26 v0 rfl rfl) tr0 lt0
  have L0' : sumR fileB (l0 0) + sumR fileB (l0 1) + sumR fileB (l0 2) ≤ Rows.uptoBulk d0 := L0
  have hk3 := hk2
  refine (jagain_law a0 c0 l0 W (fun i hi => (B0 i hi).1) (fun i hi f hf => ⟨path_le hf (sum_at L0' hi) (by omega), (B0 i hi).2 f hf⟩) (fun i hi => len_at L0' (by omega) hi) hE).mono fun e W' ⟨he, hb⟩ => ?_
  subst he
  exact ⟨_, rfl, _, [], _, [], _, [], hW', trodAll_cons_mk (shut_bool Tryd.underlying4 _) trodAll_mk0, (trodAll_cons_mk (Below.trod laidOut5 (by kernel_rfl) (of_decide_eq_true (by kernel_rfl)) k0 hb lt0) trodAll_mk0), rfl, hb.frame _, fun h => by cases h⟩
theorem joinAgain_holds : Rows.JoinAgainUptoSaid :=
  OpenClaim.holds_of_cond 6 Tryd.f6 rfl rfl rfl rfl rfl rfl rfl ⟨rfl, rfl, rfl, rfl, rfl⟩ rfl rfl rfl rfl rfl (by kernel_rfl) Tryd.func6 (by kernel_rfl)
    (of_decide_eq_true (by kernel_rfl)) (by unfold Func.isWrapper; first | (rw [if_pos (by decide +kernel)]; kernel_rfl) | (rw [if_neg (by decide +kernel)]; exact ⟨rfl, rfl⟩))
    (fun os started H enc _ F => joinAgain_lifted os started H enc F)
theorem joinAgain_card : Rows.JoinAgainUptoCardSaid :=
  Claim7.holds_tied_plain_at .later [] [.data, .pinned] true Rows.joinAgainUptoCard.stood.harness false
    joinAgain_holds (fun _ h => by cases h) (by kernel_rfl) (fun _ h => by cases h) joinAgainUpto_row_tie rfl ⟨rfl, rfl⟩ (by kernel_rfl) rfl
    (fun f fn hf hfn => by
      obtain rfl : f = 6 := Option.some.inj ((show Tryd.prog.funcNamed Rows.joinAgainUptoRow.func = some 6 by kernel_rfl).symm.trans hf) |>.symm
      obtain rfl : fn = Tryd.f6 := (Option.some.inj (Tryd.func6.symm.trans hfn)).symm
      exact ⟨by kernel_rfl, fun j t ht => by
        rw [Tryd.params6] at ht
        have hm : t ∈ [26] := by simpa using Array.mem_of_getElem? ht
        have hall : ([26].all fun u => !Tryd.prog.wantsStandIn u) = true := by kernel_rfl
        exact (show Tryd.prog.wantsStandIn t = false by simpa using List.all_eq_true.1 hall t hm)⟩)
    (by kernel_rfl)
end Go.Proofs.YtjlpdoppnhcjoaaDoor
