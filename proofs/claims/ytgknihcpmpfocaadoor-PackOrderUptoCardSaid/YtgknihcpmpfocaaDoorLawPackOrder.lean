/- Proved here: the law PackOrder returns true, and each argument reads afterwards as it read before. Conditions: those of the given row: the listed package variables hold what the program's own text and Go's own library lay in them, and what the arguments hold is of bulk at most 1048576. -/
import Derived.Test.YtgknihcpmpfocaaDoorPkAb
import Derived.Test.YtgknihcpmpfocaaDoorPkOpen3
import Derived.Test.YtgknihcpmpfocaaDoorPkEnv
import Derived.Test.YtgknihcpmpfocaaDoorTie
import Derived.Test.YtgknihcpmpfocaaDoorCards
import Derived.SevenTiedAt
import Derived.Laws.FloatArith
import Derived.Carry
namespace Go.Proofs.YtgknihcpmpfocaaDoor
open Go.ChangeShapes Go.WideShapes Go.ChangeAt Go.RowKit Go.Stop Go.ChangeMaps
set_option maxRecDepth 100000 in
theorem packOrder_lifted (os : Os) (started : os.Started) (H : Type) (enc : TypeId × Value → H) (F : Stop.Interp) :
    ReturnsInHanded {} Tryd.checked os 5 .any (fun w args => ((Rows.OpenSpec.upto Rows.packOrderSpec).pre enc Tryd.prog Tryd.f5 [] false w args ∧ laidMetH Tryd.prog laidAll5 w) ∧ sizedMet enc Tryd.prog Tryd.f5 (Rows.OpenSpec.upto Rows.packOrderSpec) false w args)
      (((Rows.OpenSpec.upto Rows.packOrderSpec).at F).post enc Tryd.prog Tryd.f5 false true false false) := by
  refine handed_cond_and (C := Tryd.checked) (s := Rows.OpenSpec.upto Rows.packOrderSpec) (k := Rows.uptoSmall) rfl (X := fun w _ => laidMetH Tryd.prog laidAll5 w) (fun _ _ _ hh h => h.of_heap hh) own5 started (by kernel_rfl) Tryd.func5
    (witness_cond (enc := enc) (C := Tryd.checked) (os := os) (s := Rows.OpenSpec.upto Rows.packOrderSpec) (k := Rows.uptoSmall) rfl (X := fun w _ => laidMetH Tryd.prog laidAll5 w) false (pinLaid os) #[.slice none 0 0, .slice none 0 0] 8 rfl (pin_shaped os _) (by kernel_rfl) (x := ([.nil, .nil], [], [])) (by kernel_rfl) rfl (by kernel_rfl) (by kernel_rfl) (door_met5 os _)) ?_
  intro W base args ds gs before hval0 hW hk hsh hlaid
  have hval : ∀ (j : Nat) t v, Tryd.f5.params[j]? = some t → args[j]? = some v → Value.okWide Tryd.prog W .any base t v := hval0
  have hW' := hW
  obtain ⟨p, q, hA0, hV, rfl, hfz, hnd⟩ := hW
  have hA : DataW.TrodAll enc Tryd.prog W 0 (fun _ => true) true Tryd.f5.params.toList args.toList ds p := hA0
  rw [Tryd.params5] at hA hval
  obtain ⟨v0, vs0, d0, ds0, p0, q0, hargs, rfl, rfl, h0, r0⟩ := trodAll_cons hA
  obtain ⟨v1, vs1, d1, ds1, p1, q1, rfl, rfl, rfl, h1, r1⟩ := trodAll_cons r0
  obtain ⟨rfl, rfl, rfl⟩ := trodAll_nil r1
  obtain rfl : args = #[v0, v1] := by cases args; simp_all
  obtain ⟨rfl, rfl⟩ := trodVars_none hV
  have hP := penv_of_shape hsh
  have hE := env_of_laid hlaid
  clear hA0 hval0
  simp only [List.append_nil] at hW' hk
  have hk2 := of_decide_eq_true hk
  simp only [Rows.uptoBulkAll] at hk2
  have hltall := hW'.lt
  have lt0 : ∀ x ∈ p0, x.block < W.heap.size := fun x hx => by
    refine hltall x ?_
    exact by simp [hx]
  have k0 := h0
  obtain ⟨fu0, tr0⟩ := h0
  obtain ⟨sa0, sn0, sc0, rfl⟩ := slice_of_val Tryd.underlying24 (hval 0 24 v0 rfl rfl)
  obtain ⟨l0, B0, L0⟩ := open_chunksv (by simpa [Value.cells] using tr0) lt0
  have L0' : sumR (fun l => l.length + 1) l0 ≤ Rows.uptoBulk d0 := L0
  have lt1 : ∀ x ∈ p1, x.block < W.heap.size := fun x hx => by
    refine hltall x ?_
    exact by simp [hx]
  have k1 := h1
  obtain ⟨fu1, tr1⟩ := h1
  obtain ⟨sa1, sn1, sc1, rfl⟩ := slice_of_val Tryd.underlying50 (hval 1 50 v1 rfl rfl)
  obtain ⟨l1, B1, L1⟩ := open_bools (by simpa [Value.cells] using tr1) lt1
  have L1' : l1.length ≤ Rows.uptoBulk d1 := L1
  have hk3 := hk2
  refine (order_law _ _ _ l0 l1 W B0 B1 (fun _ h => h) hE hP (by have := sumR_len (f := fun l : List UInt8 => l.length + 1) (fun _ => Nat.succ_pos _) l0; omega) (fun x hx => by have h9 : x.length + 1 ≤ _ := sumR_mem (fun l : List UInt8 => l.length + 1) l0 x hx; omega)).mono fun e W' ⟨he, hb⟩ => ?_
  subst he
  exact ⟨_, rfl, _, [], _, [], _, [], hW', trodAll_cons_mk (shut_bool Tryd.underlying4 _) trodAll_mk0, (trodAll_cons_mk (Below.trod laidOut5 (by kernel_rfl) (of_decide_eq_true (by kernel_rfl)) k0 hb lt0) (trodAll_cons_mk (Below.trod laidOut5 (by kernel_rfl) (of_decide_eq_true (by kernel_rfl)) k1 hb lt1) trodAll_mk0)), rfl, hb.frame _, fun h => by cases h⟩
theorem packOrder_holds : Rows.PackOrderUptoSaid :=
  OpenClaim.holds_of_cond 5 Tryd.f5 rfl rfl rfl rfl rfl rfl rfl ⟨rfl, rfl, rfl, rfl, rfl⟩ rfl rfl rfl rfl rfl (by kernel_rfl) Tryd.func5 (by kernel_rfl)
    (of_decide_eq_true (by kernel_rfl)) (by unfold Func.isWrapper; first | (rw [if_pos (by decide +kernel)]; kernel_rfl) | (rw [if_neg (by decide +kernel)]; exact ⟨rfl, rfl⟩))
    (fun os started H enc _ F => packOrder_lifted os started H enc F)
theorem packOrder_card : Rows.PackOrderUptoCardSaid :=
  Claim7.holds_tied_plain_at .later [] [.data, .data, .data, .pinned] true Rows.packOrderUptoCard.stood.harness true
    packOrder_holds (fun _ h => by cases h) (by kernel_rfl) (fun _ h => by cases h) packOrderUpto_row_tie rfl ⟨rfl, rfl⟩ (by kernel_rfl) rfl
    (fun f fn hf hfn => by
      obtain rfl : f = 5 := Option.some.inj ((show Tryd.prog.funcNamed Rows.packOrderUptoRow.func = some 5 by kernel_rfl).symm.trans hf) |>.symm
      obtain rfl : fn = Tryd.f5 := (Option.some.inj (Tryd.func5.symm.trans hfn)).symm
      exact ⟨by kernel_rfl, fun j t ht => by
        rw [Tryd.params5] at ht
        have hm : t ∈ [24, 50] := by simpa using Array.mem_of_getElem? ht
        have hall : ([24, 50].all fun u => !Tryd.prog.wantsStandIn u) = true := by kernel_rfl
        exact (show Tryd.prog.wantsStandIn t = false by simpa using List.all_eq_true.1 hall t hm)⟩)
    (by kernel_rfl)
end Go.Proofs.YtgknihcpmpfocaaDoor
