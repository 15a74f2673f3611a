/- Proved here: the law ObjectWrites returns true, and each argument reads afterwards as it read before. Condition: that of the given row: what the arguments hold is of bulk at most 1048576. -/
import Derived.Test.YtdolonkeanlaoaaObWr
import Derived.Test.YtdolonkeanlaoaaOpen
import Derived.JoinedCond
import Derived.ProofKit
import Derived.OpenShut
import Derived.Carry
namespace Go.Proofs.Ytdolonkeanlaoaa
open Go.ChangeShapes Go.WideShapes Go.ChangeAt Go.RowKit Go.ChangeMaps
theorem objectWrites_own : ownKnob Try.prog.godebug = none := by kernel_rfl
theorem objectWrites_laidOut : laidOutB Try.prog = true := by kernel_rfl
set_option maxRecDepth 100000 in
theorem objectWrites_contract (H : Type) (enc : TypeId × Value → H) (W : World) (base : Nat) (args : Array Value) (ds gs : List (DataW H)) (before : List MemPlace)
    (hval : ∀ (j : Nat) t v, Try.f3.params[j]? = some t → args[j]? = some v → Value.okWide Try.prog W .any base t v)
    (hW : DataW.Whole enc Try.prog Try.f3.params.toList Rows.objectWritesSpec.vars false W args.toList ds gs before) (hk : Rows.uptoSmall H (ds ++ gs) = true) :
    Calls Try.prog 3 args W fun e W' => ∃ v, e = .returned v ∧ Rows.objectWritesSpec.post enc Try.prog Try.f3 false true false false W args v W' := by
  have hW' := hW
  obtain ⟨p, q, hA0, hV, rfl, hfz, hnd⟩ := hW
  have hA : DataW.TrodAll enc Try.prog W 0 (fun _ => true) true Try.f3.params.toList args.toList ds p := hA0
  rw [Try.params3] at hA hval
  obtain ⟨v0, vs0, d0, ds0, p0, q0, hargs, rfl, rfl, h0, r0⟩ := trodAll_cons hA
  obtain ⟨v1, vs1, d1, ds1, p1, q1, rfl, rfl, rfl, h1, r1⟩ := trodAll_cons r0
  obtain ⟨v2, vs2, d2, ds2, p2, q2, rfl, rfl, rfl, h2, r2⟩ := trodAll_cons r1
  obtain ⟨rfl, rfl, rfl⟩ := trodAll_nil r2
  obtain rfl : args = #[v0, v1, v2] := by cases args; simp_all
  obtain ⟨rfl, rfl⟩ := trodVars_none hV
  clear hA0
  simp only [List.append_nil] at hW' hk
  have hk2 := of_decide_eq_true hk
  simp only [Rows.uptoBulkAll] at hk2
  have hltall := hW'.lt
  have lt0 : ∀ x ∈ p0, x.block < W.heap.size := fun x hx => by
    refine hltall x ?_
    exact by simp [hx]
  have k0 := h0
  obtain ⟨fu0, tr0⟩ := h0
  obtain ⟨a0, n0, c0, l0, z0, rfl, B0, N0, L0, lo0, hi0⟩ := open_blob (hval 0 24 v0 rfl rfl) tr0 lt0
  have L0' : l0.length ≤ Rows.uptoBulk d0 := L0
  have lt1 : ∀ x ∈ p1, x.block < W.heap.size := fun x hx => by
    refine hltall x ?_
    exact by simp [hx]
  have k1 := h1
  obtain ⟨fu1, tr1⟩ := h1
  obtain ⟨sa1, sn1, sc1, rfl⟩ := slice_of_val Try.underlying25 (hval 1 25 v1 rfl rfl)
  obtain ⟨l1, B1, L1⟩ := open_entsv (by simpa [Value.cells] using tr1) lt1
  have L1' : sumR entB l1 ≤ Rows.uptoBulk d1 := L1
  have lt2 : ∀ x ∈ p2, x.block < W.heap.size := fun x hx => by
    refine hltall x ?_
    exact by simp [hx]
  have k2 := h2
  obtain ⟨fu2, tr2⟩ := h2
  obtain ⟨a2, n2, c2, x2, rfl, B2, N2, T2, S2, L2⟩ := open_com (hval 2 30 v2 rfl rfl) tr2 lt2
  have L2' : x2.parents.length + x2.author.length + x2.note.length ≤ Rows.uptoBulk d2 := L2
  refine (writes_try _ _ _ l0 z0 _ l1 _ _ _ x2 W B0 N0 (by omega) lo0 hi0 B1.1 (Nat.le_trans (ents_len L1') (by omega)) (ents_fine L1' (by omega) B1.2) B2 N2 (by omega) T2 S2 (by omega) (by omega)).mono fun e W' ⟨he, hb⟩ => ?_
  subst he
  exact ⟨_, rfl, _, [], _, [], _, [], hW', trodAll_cons_mk (shut_bool Try.underlying4 _) trodAll_mk0, (trodAll_cons_mk (Below.trod objectWrites_laidOut (by kernel_rfl) (of_decide_eq_true (by kernel_rfl)) k0 hb lt0) (trodAll_cons_mk (Below.trod objectWrites_laidOut (by kernel_rfl) (of_decide_eq_true (by kernel_rfl)) k1 hb lt1) (trodAll_cons_mk (Below.trod objectWrites_laidOut (by kernel_rfl) (of_decide_eq_true (by kernel_rfl)) k2 hb lt2) trodAll_mk0))), rfl, hb.frame _, fun h => by cases h⟩
set_option maxRecDepth 100000 in
theorem objectWrites_lifted (os : Os) (started : os.Started) (H : Type) (enc : TypeId × Value → H) (F : Stop.Interp) :
    ReturnsInHanded {} Try.checked os 3 .any ((Rows.OpenSpec.upto Rows.objectWritesSpec).pre6 enc Try.prog Try.f3 Rows.objectWritesUptoRow.domain false) (((Rows.OpenSpec.upto Rows.objectWritesSpec).at F).post enc Try.prog Try.f3 false true false false) := by
  refine returnsInHanded_of_cond (C := Try.checked) (s := Rows.OpenSpec.upto Rows.objectWritesSpec) (k := Rows.uptoSmall) rfl objectWrites_own started (by kernel_rfl) Try.func3
    (OpenSpec.witness (enc := enc) (C := Try.checked) (s := Rows.OpenSpec.upto Rows.objectWritesSpec) (k := Rows.uptoSmall) rfl false ⟨#[], #[.agg #[.slice none 0 0, .int .i64 0], .slice none 0 0, .agg (List.replicate 32 (Value.int .u8 0) ++ ([.slice none 0 0, .float .f64 0, .string ByteArray.empty, .string ByteArray.empty] : List Value)).toArray], []⟩ 8 (by kernel_rfl) (by kernel_rfl) (by kernel_rfl)
      (x := ([.agg [.nil, .lit (.int .i64 0)], .nil, .agg [.agg (List.replicate 32 (.lit (.int .u8 0))), .nil, .lit (.float .f64 0), .lit (.string []), .lit (.string [])]], [], [])) (by kernel_rfl) rfl (by kernel_rfl)) ?_
  intro W base args ds gs before hval hW _ hk _
  exact objectWrites_contract H enc W base args ds gs before hval hW hk
theorem objectWrites_holds : Rows.ObjectWritesUptoSaid :=
  OpenClaim.holds_of_cond 3 Try.f3 rfl rfl rfl rfl rfl rfl rfl ⟨rfl, rfl, rfl, rfl, rfl⟩ rfl rfl rfl rfl rfl (by kernel_rfl) Try.func3 (by kernel_rfl)
    (of_decide_eq_true (by kernel_rfl)) (by unfold Func.isWrapper; first | (rw [if_pos (by decide +kernel)]; kernel_rfl) | (rw [if_neg (by decide +kernel)]; exact ⟨rfl, rfl⟩))
    (fun os started H enc _ F => objectWrites_lifted os started H enc F)
end Go.Proofs.Ytdolonkeanlaoaa
