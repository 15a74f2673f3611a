/- Proved here: the law GlobAny returns true, and each argument reads afterwards as it read before. Conditions: those of the given row: the listed package variables hold what the program's own text and Go's own library lay in them, and what the arguments hold is of bulk at most 1048576. -/
import Derived.Test.YtkecpmhpdginpaaDoorGlobR
import Derived.Test.YtkecpmhpdginpaaDoorPathEnv
import Derived.Test.YtkecpmhpdginpaaDoorPathOpen
import Derived.Test.YtkecpmhpdginpaaDoorTie
import Derived.Test.YtkecpmhpdginpaaDoorCards
import Derived.SevenTiedAt
import Derived.Laws.FloatArith
import Derived.Carry
namespace Go.Proofs.YtkecpmhpdginpaaDoor
open Go.ChangeShapes Go.WideShapes Go.ChangeAt Go.RowKit Go.Stop Go.ChangeMaps
set_option maxRecDepth 100000 in
theorem globAny_lifted (os : Os) (started : os.Started) (H : Type) (enc : TypeId × Value → H) (F : Stop.Interp) :
    ReturnsInHanded {} Tryd.checked os 8 .any (fun w args => ((Rows.OpenSpec.upto Rows.globAnySpec).pre enc Tryd.prog Tryd.f8 [] false w args ∧ laidMetH Tryd.prog laidAll5 w) ∧ sizedMet enc Tryd.prog Tryd.f8 (Rows.OpenSpec.upto Rows.globAnySpec) false w args)
      (((Rows.OpenSpec.upto Rows.globAnySpec).at F).post enc Tryd.prog Tryd.f8 false true false false) := by
  refine handed_cond_and (C := Tryd.checked) (s := Rows.OpenSpec.upto Rows.globAnySpec) (k := Rows.uptoSmall) rfl (X := fun w _ => laidMetH Tryd.prog laidAll5 w) (fun _ _ _ hh h => h.of_heap hh) own5 started (by kernel_rfl) Tryd.func8
    (witness_cond (enc := enc) (C := Tryd.checked) (os := os) (s := Rows.OpenSpec.upto Rows.globAnySpec) (k := Rows.uptoSmall) rfl (X := fun w _ => laidMetH Tryd.prog laidAll5 w) false (pinLaid os) #[.string ByteArray.empty, .slice none 0 0, .int .u8 0] 8 rfl (pin_shaped os _) (by kernel_rfl) (x := ([.lit (.string []), .nil, .lit (.int .u8 0)], [], [])) (by kernel_rfl) rfl (by kernel_rfl) (by kernel_rfl) (door_met5 os _)) ?_
  intro W base args ds gs before hval0 hW hk hsh _
  have hval : ∀ (j : Nat) t v, Tryd.f8.params[j]? = some t → args[j]? = some v → Value.okWide Tryd.prog W .any base t v := hval0
  have hW' := hW
  obtain ⟨p, q, hA0, hV, rfl, hfz, hnd⟩ := hW
  have hA : DataW.TrodAll enc Tryd.prog W 0 (fun _ => true) true Tryd.f8.params.toList args.toList ds p := hA0
  rw [Tryd.params8] at hA hval
  obtain ⟨v0, vs0, d0, ds0, p0, q0, hargs, rfl, rfl, h0, r0⟩ := trodAll_cons hA
  obtain ⟨v1, vs1, d1, ds1, p1, q1, rfl, rfl, rfl, h1, r1⟩ := trodAll_cons r0
  obtain ⟨v2, vs2, d2, ds2, p2, q2, rfl, rfl, rfl, h2, r2⟩ := trodAll_cons r1
  obtain ⟨rfl, rfl, rfl⟩ := trodAll_nil r2
  obtain rfl : args = #[v0, v1, v2] := by cases args; simp_all
  obtain ⟨rfl, rfl⟩ := trodVars_none hV
  have hE := penv_of_shape hsh
  clear hA0 hval0
  simp only [List.append_nil] at hW' hk
  have hk2 := of_decide_eq_true hk
  simp only [Rows.uptoBulkAll] at hk2
  have hltall := hW'.lt
  obtain ⟨a0, rfl, rfl, rfl, w0⟩ := open_string Tryd.underlying9 (hval 0 9 v0 rfl rfl) h0
  obtain ⟨l0, rfl⟩ : ∃ l : List UInt8, a0 = ⟨l.toArray⟩ := ⟨a0.data.toList, by simp⟩
  have lt1 : ∀ x ∈ p1, x.block < W.heap.size := fun x hx => by
    refine hltall x ?_
    exact by simp [hx]
  have k1 := h1
  obtain ⟨fu1, tr1⟩ := h1
  obtain ⟨sa1, sn1, sc1, rfl⟩ := slice_of_val Tryd.underlying30 (hval 1 30 v1 rfl rfl)
  obtain ⟨l1, B1, L1⟩ := open_strs (by simpa [Value.cells] using tr1) lt1
  have L1' : sumL l1 ≤ Rows.uptoBulk d1 := L1
  obtain ⟨a2, rfl, rfl, rfl, w2⟩ := open_int Tryd.underlying5 (hval 2 5 v2 rfl rfl) h2
  obtain ⟨y2, rfl⟩ : ∃ y : UInt8, a2 = (y.toNat : Int) := byte_wf w2
  simp only [Rows.uptoBulk] at hk2
  refine (any_law _ l0 _ l1 y2 W (fun k hk => hk) B1 hE (by simp at hk2; omega) (by have := sumL_len l1; simp at hk2; omega) (fun x hx => by have := sumL_mem l1 x hx; simp at hk2; omega)).mono fun e W' ⟨he, hb⟩ => ?_
  subst he
  exact ⟨_, rfl, _, [], _, [], _, [], hW', trodAll_cons_mk (shut_bool Tryd.underlying4 _) trodAll_mk0, (trodAll_cons_mk (shut_string Tryd.underlying9 w0) (trodAll_cons_mk (Below.trod laidOut5 (by kernel_rfl) (of_decide_eq_true (by kernel_rfl)) k1 hb lt1) (trodAll_cons_mk (shut_int Tryd.underlying5 w2) trodAll_mk0))), rfl, hb.frame _, fun h => by cases h⟩
theorem globAny_holds : Rows.GlobAnyUptoSaid :=
  OpenClaim.holds_of_cond 8 Tryd.f8 rfl rfl rfl rfl rfl rfl rfl ⟨rfl, rfl, rfl, rfl, rfl⟩ rfl rfl rfl rfl rfl (by kernel_rfl) Tryd.func8 (by kernel_rfl)
    (of_decide_eq_true (by kernel_rfl)) (by unfold Func.isWrapper; first | (rw [if_pos (by decide +kernel)]; kernel_rfl) | (rw [if_neg (by decide +kernel)]; exact ⟨rfl, rfl⟩))
    (fun os started H enc _ F => globAny_lifted os started H enc F)
theorem globAny_card : Rows.GlobAnyUptoCardSaid :=
  Claim7.holds_tied_plain_at .later [] [.data, .pinned] true Rows.globAnyUptoCard.stood.harness true
    globAny_holds (fun _ h => by cases h) (by kernel_rfl) (fun _ h => by cases h) globAnyUpto_row_tie rfl ⟨rfl, rfl⟩ (by kernel_rfl) rfl
    (fun f fn hf hfn => by
      obtain rfl : f = 8 := Option.some.inj ((show Tryd.prog.funcNamed Rows.globAnyUptoRow.func = some 8 by kernel_rfl).symm.trans hf) |>.symm
      obtain rfl : fn = Tryd.f8 := (Option.some.inj (Tryd.func8.symm.trans hfn)).symm
      exact ⟨by kernel_rfl, fun j t ht => by
        rw [Tryd.params8] at ht
        have hm : t ∈ [9, 30, 5] := by simpa using Array.mem_of_getElem? ht
        have hall : ([9, 30, 5].all fun u => !Tryd.prog.wantsStandIn u) = true := by kernel_rfl
        exact (show Tryd.prog.wantsStandIn t = false by simpa using List.all_eq_true.1 hall t hm)⟩)
    (by kernel_rfl)
end Go.Proofs.YtkecpmhpdginpaaDoor
