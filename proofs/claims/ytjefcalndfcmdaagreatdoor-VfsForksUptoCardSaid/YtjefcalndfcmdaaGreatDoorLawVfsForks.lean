/- Proved here: the law VfsForks returns true, and each argument reads afterwards as it read before. Conditions: those of the given row: the listed package variables hold what the program's own text and Go's own library lay in them, and what the arguments hold is of bulk at most 1048576. -/
import Derived.Test.YtjefcalndfcmdaaGreatDoorVhJ
import Derived.Test.YtjefcalndfcmdaaGreatDoorVhOpen
import Derived.Test.YtjefcalndfcmdaaGreatDoorJnEnv
import Derived.Test.YtjefcalndfcmdaaGreatDoorTie
import Derived.Test.YtjefcalndfcmdaaGreatDoorCards
import Derived.SevenTiedAt
import Derived.Laws.FloatArith
import Derived.Carry
namespace Go.Proofs.YtjefcalndfcmdaaGreatDoor
open Go.ChangeShapes Go.WideShapes Go.ChangeAt Go.RowKit Go.Stop Go.ChangeMaps
set_option maxRecDepth 100000 in
theorem vfsForks_lifted (os : Os) (started : os.Started) (H : Type) (enc : TypeId × Value → H) (F : Stop.Interp) :
    ReturnsInHanded {} Tryz.checked os 4 .any (fun w args => ((Rows.OpenSpec.upto Rows.vfsForksSpec).pre enc Tryz.prog Tryz.f4 [] false w args ∧ laidMetH Tryz.prog laidAll5 w) ∧ sizedMet enc Tryz.prog Tryz.f4 (Rows.OpenSpec.upto Rows.vfsForksSpec) false w args)
      (((Rows.OpenSpec.upto Rows.vfsForksSpec).at F).post enc Tryz.prog Tryz.f4 false true false false) := by
  refine handed_cond_and (C := Tryz.checked) (s := Rows.OpenSpec.upto Rows.vfsForksSpec) (k := Rows.uptoSmall) rfl (X := fun w _ => laidMetH Tryz.prog laidAll5 w) (fun _ _ _ hh h => h.of_heap hh) own5 started (by kernel_rfl) Tryz.func4
    (witness_cond (enc := enc) (C := Tryz.checked) (os := os) (s := Rows.OpenSpec.upto Rows.vfsForksSpec) (k := Rows.uptoSmall) rfl (X := fun w _ => laidMetH Tryz.prog laidAll5 w) false (pinLaid os) #[.slice none 0 0, .slice none 0 0] 8 rfl (pin_shaped os _) (by kernel_rfl) (x := ([.nil, .nil], [], [])) (by kernel_rfl) rfl (by kernel_rfl) (by kernel_rfl) (door_met5 os _)) ?_
  intro W base args ds gs before hval0 hW hk hsh _
  have hval : ∀ (j : Nat) t v, Tryz.f4.params[j]? = some t → args[j]? = some v → Value.okWide Tryz.prog W .any base t v := hval0
  have hW' := hW
  obtain ⟨p, q, hA0, hV, rfl, hfz, hnd⟩ := hW
  have hA : DataW.TrodAll enc Tryz.prog W 0 (fun _ => true) true Tryz.f4.params.toList args.toList ds p := hA0
  rw [Tryz.params4] at hA hval
  obtain ⟨v0, vs0, d0, ds0, p0, q0, hargs, rfl, rfl, h0, r0⟩ := trodAll_cons hA
  obtain ⟨v1, vs1, d1, ds1, p1, q1, rfl, rfl, rfl, h1, r1⟩ := trodAll_cons r0
  obtain ⟨rfl, rfl, rfl⟩ := trodAll_nil r1
  obtain rfl : args = #[v0, v1] := by cases args; simp_all
  obtain ⟨rfl, rfl⟩ := trodVars_none hV
  have hE := penv_of_shape hsh
  clear hA0 hval0
  simp only [List.append_nil] at hW' hk
  have hk2 := of_decide_eq_true hk
  simp only [Rows.uptoBulkAll] at hk2
  have hltall := hW'.lt
  have lt0 : ∀ x ∈ p0, x.block < W.heap.size := fun x hx => by
    refine hltall x ?_
    exact by simp [hx]
  have k0 := h0
  obtain ⟨fu0, tr0⟩ := h0
  obtain ⟨sa0, sn0, sc0, rfl⟩ := slice_of_val Tryz.underlying22 (hval 0 22 v0 rfl rfl)
  obtain ⟨l0, B0, L0⟩ := open_opsv (by simpa [Value.cells] using tr0) lt0
  have L0' : sumR opB l0 ≤ Rows.uptoBulk d0 := L0
  have lt1 : ∀ x ∈ p1, x.block < W.heap.size := fun x hx => by
    refine hltall x ?_
    exact by simp [hx]
  have k1 := h1
  obtain ⟨fu1, tr1⟩ := h1
  obtain ⟨sa1, sn1, sc1, rfl⟩ := slice_of_val Tryz.underlying22 (hval 1 22 v1 rfl rfl)
  obtain ⟨l1, B1, L1⟩ := open_opsv (by simpa [Value.cells] using tr1) lt1
  have L1' : sumR opB l1 ≤ Rows.uptoBulk d1 := L1
  have hk3 := hk2
  refine (forks_law _ _ l0 l1 W B0.1 B1.1 (opsOk_of B0.2 (by omega)).2 (opsOk_of B1.2 (by omega)).2 (opsOk_of B0.2 (by omega)).1 (opsOk_of B1.2 (by omega)).1 hE).mono fun e W' ⟨he, hb⟩ => ?_
  subst he
  exact ⟨_, rfl, _, [], _, [], _, [], hW', trodAll_cons_mk (shut_bool Tryz.underlying4 _) trodAll_mk0, (trodAll_cons_mk (Below.trod laidOut5 (by kernel_rfl) (of_decide_eq_true (by kernel_rfl)) k0 hb lt0) (trodAll_cons_mk (Below.trod laidOut5 (by kernel_rfl) (of_decide_eq_true (by kernel_rfl)) k1 hb lt1) trodAll_mk0)), rfl, hb.frame _, fun h => by cases h⟩
theorem vfsForks_holds : Rows.VfsForksUptoSaid :=
  OpenClaim.holds_of_cond 4 Tryz.f4 rfl rfl rfl rfl rfl rfl rfl ⟨rfl, rfl, rfl, rfl, rfl⟩ rfl rfl rfl rfl rfl (by kernel_rfl) Tryz.func4 (by kernel_rfl)
    (of_decide_eq_true (by kernel_rfl)) (by unfold Func.isWrapper; first | (rw [if_pos (by decide +kernel)]; kernel_rfl) | (rw [if_neg (by decide +kernel)]; exact ⟨rfl, rfl⟩))
    (fun os started H enc _ F => vfsForks_lifted os started H enc F)
theorem vfsForks_card : Rows.VfsForksUptoCardSaid :=
  Claim7.holds_tied_plain_at .later [] [.data, .pinned] true Rows.vfsForksUptoCard.stood.harness true
    vfsForks_holds (fun _ h => by cases h) (by kernel_rfl) (fun _ h => by cases h) vfsForksUpto_row_tie rfl ⟨rfl, rfl⟩ (by kernel_rfl) rfl
    (fun f fn hf hfn => by
      obtain rfl : f = 4 := Option.some.inj ((show Tryz.prog.funcNamed Rows.vfsForksUptoRow.func = some 4 by kernel_rfl).symm.trans hf) |>.symm
      obtain rfl : fn = Tryz.f4 := (Option.some.inj (Tryz.func4.symm.trans hfn)).symm
      exact ⟨by kernel_rfl, fun j t ht => by
        rw [Tryz.params4] at ht
        have hm : t ∈ [22, 22] := by simpa using Array.mem_of_getElem? ht
        have hall : ([22, 22].all fun u => !Tryz.prog.wantsStandIn u) = true := by kernel_rfl
        exact (show Tryz.prog.wantsStandIn t = false by simpa using List.all_eq_true.1 hall t hm)⟩)
    (by kernel_rfl)
end Go.Proofs.YtjefcalndfcmdaaGreatDoor
