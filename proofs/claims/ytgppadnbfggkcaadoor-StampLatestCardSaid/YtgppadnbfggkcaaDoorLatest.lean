/- Proved here: for every input the law StampLatest returns true, and each argument reads afterwards as it read before. Conditions: only those of the given row: the five listed package variables hold what the program's own text lays in them. -/
import Derived.Test.YtgppadnbfggkcaaDoorW
import Derived.Test.YtgppadnbfggkcaaDoorP
import Derived.Test.YtgppadnbfggkcaaDoorTie
import Derived.Test.YtgppadnbfggkcaaDoorCards
import Derived.SevenTiedAt
import Derived.Laws.FloatArith
import Derived.Deep.Slices
import Derived.SizedLaws
import Derived.Carry
namespace Go.Proofs.YtgppadnbfggkcaaDoor
open Go.Deep Go.ChangeShapes Go.WideShapes Go.ChangeAt Go.RowKit Go.Stop Go.ChangeMaps
theorem trod_float {H : Type} {enc : TypeId × Value → H} {P : Program} {w : World} {base : Nat} {spare : Nat → Bool} {held : Bool} {fuel : Nat} {t : TypeId} {v : Value} {x : DataW H × List MemPlace} (ht : P.underlying t = some (.float .f64))
    (h : DataW.trod enc P w base spare held fuel t [v] = some x) : ∃ b, v = .float .f64 b ∧ b < 18446744073709551616 := by
  cases fuel with
  | zero => simp [DataW.trod] at h
  | succ n =>
    simp only [DataW.trod, ht] at h
    cases v <;> simp at h
    rename_i k b
    obtain ⟨⟨rfl, h2⟩, _⟩ := h
    exact ⟨b, rfl, by simpa [Lit.wf] using h2⟩
set_option maxRecDepth 100000 in
theorem stampLatest_lifted (os : Os) (started : os.Started) (H : Type) (enc : TypeId × Value → H) :
    ReturnsInHanded {} Tryd.checked os 7 .any (fun w args => (Rows.stampLatestSpec.pre enc Tryd.prog Tryd.f7 [] false w args ∧ laidMetH Tryd.prog laidAll w) ∧ sizedMet enc Tryd.prog Tryd.f7 (OpenSpec.ofChange Rows.stampLatestSpec) false w args)
      (Rows.stampLatestSpec.post enc Tryd.prog Tryd.f7 false true false false) := by
  refine returnsInHanded_of_change_and (C := Tryd.checked) (X := fun w _ => laidMetH Tryd.prog laidAll w) (fun _ _ _ hh h => h.of_heap hh) own started (by kernel_rfl) Tryd.func7
    (ChangeSpec.witness_shaped (enc := enc) (C := Tryd.checked) (os := os) (X := fun w _ => laidMetH Tryd.prog laidAll w) false (World.doorLaid Tryd.prog 400 os) #[.slice none 0 0] 8 rfl (World.shaped_of_RefB (by kernel_rfl) (by kernel_rfl)) (by kernel_rfl) (by kernel_rfl) (by kernel_rfl) (door_met os _)) ?_
  intro W base args ds gs before hval0 hW _ hsz hL _
  have hval : ∀ (j : Nat) t v, Tryd.f7.params[j]? = some t → args[j]? = some v → Value.okWide Tryd.prog W .any base t v := hval0
  have hW' := hW
  obtain ⟨p, q, hA0, hV, rfl, hfz, hnd⟩ := hW
  have hA : DataW.TrodAll enc Tryd.prog W 0 (fun _ => true) true Tryd.f7.params.toList args.toList ds p := hA0
  rw [Tryd.params7] at hA hval hsz
  obtain ⟨v0, vs0, d0, ds0, p0, q0, hargs, rfl, rfl, h0, r0⟩ := trodAll_cons hA
  obtain ⟨rfl, rfl, rfl⟩ := trodAll_nil r0
  obtain rfl : args = #[v0] := by cases args; simp_all
  obtain ⟨rfl, rfl⟩ := trodVars_none hV
  obtain ⟨a0, len, cap, rfl⟩ := okWide_slice Tryd.underlying37 (hval 0 37 v0 rfl rfl)
  have hE := env_of_laid hL
  have hkeep := h0
  obtain ⟨fuel, hf⟩ := h0
  clear hA0 hval0
  simp only [List.append_nil] at hW'
  have hlt : ∀ x ∈ p0, x.block < W.heap.size := fun x hx => by simpa using hW'.lt x hx
  have fin : ∀ l : List Nat, l.length = len → l.length * 8 ≤ 140737488351232 → (∀ f ∈ l, f < 18446744073709551616) → FloatsAt W a0 l →
      Calls Tryd.checked.prog 7 #[.slice a0 len cap] W fun e W' => ∃ v, e = .returned v ∧ Rows.stampLatestSpec.post enc Tryd.prog Tryd.f7 false true false false W #[.slice a0 len cap] v W' := by
    intro l hl h8 hb hF
    subst hl
    refine (latest_law a0 l cap W h8 hb hF hE).mono fun e W' ⟨he, hb⟩ => ?_
    subst he
    exact ⟨_, rfl, _, [], _, [], p0 ++ [], [], hW', trodAll_cons_mk (shut_bool Tryd.underlying4 _) trodAll_mk0, trodAll_cons_mk (Below.trod (by kernel_rfl) (by kernel_rfl) (of_decide_eq_true (by kernel_rfl)) hkeep hb hlt) trodAll_mk0, rfl, hb.frame _, fun h => by cases h⟩
  rcases open_slice1 Tryd.underlying37 (by kernel_rfl) hf with ⟨hcs, hx⟩ | ⟨a, len', cap', m, n, V, D, Pl, hcs, _, hl, hm, hmm, hx, hcell⟩
  · simp [Value.cells] at hcs
    obtain ⟨rfl, rfl, rfl⟩ := hcs
    exact fin [] rfl (by simp) (by simp) (fun k hk => by simp at hk)
  · simp [Value.cells] at hcs
    obtain ⟨rfl, rfl, rfl⟩ := hcs
    simp only [Prod.mk.injEq] at hx
    obtain ⟨hd0, _⟩ := hx
    have hsz2 := sized_slice hsz (j := 0) (t := 37) (e := 22) rfl (by rw [hd0]; rfl) Tryd.underlying37
    have hmb : Tryd.checked.prog.bytesOf 22 = 8 := by kernel_rfl
    rw [hmb] at hsz2
    unfold reachBytes at hsz2
    have hlen8 : len * 8 ≤ 140737488351232 := by simp at hsz2; omega
    have hle : len ≤ m := by rw [hmm]; split <;> omega
    have hV2 : ∀ i, i < len → ∃ b, V i = .float .f64 b ∧ b < 18446744073709551616 := fun i hi => by
      obtain ⟨_, h2⟩ := hcell i (by omega)
      exact trod_float Tryd.underlying22 h2
    refine fin ((List.range len).map fun i => match V i with | .float _ b => b | _ => 0) (by simp) (by simpa using hlen8) ?_ ?_
    · intro f hf2
      simp only [List.mem_map, List.mem_range] at hf2
      obtain ⟨i, hi, rfl⟩ := hf2
      obtain ⟨b, e, hb⟩ := hV2 i hi
      rw [e]; exact hb
    · intro k hk
      have hk' : k < len := by simpa using hk
      obtain ⟨b, e, hb⟩ := hV2 k hk'
      refine ⟨a, rfl, ?_⟩
      rw [(hcell k (by omega)).1, e]
      simp [List.getD, hk', e]
theorem stampLatest_holds : Rows.StampLatestSaid :=
  OpenClaim.holds_of_wide 7 Tryd.f7 rfl rfl rfl rfl rfl rfl rfl ⟨rfl, rfl, rfl, rfl, rfl⟩ rfl rfl rfl rfl rfl (by kernel_rfl) Tryd.func7 (by kernel_rfl)
    (of_decide_eq_true (by kernel_rfl)) (by unfold Func.isWrapper; first | (rw [if_pos (by decide +kernel)]; kernel_rfl) | (rw [if_neg (by decide +kernel)]; exact ⟨rfl, rfl⟩))
    (fun os started H enc _ => stampLatest_lifted os started H enc)
theorem stampLatest_card : Rows.StampLatestCardSaid :=
  Claim7.holds_tied_plain_at .later [] [.data, .data, .data, .sentinel, .sentinel] true Rows.stampLatestCard.stood.harness true
    stampLatest_holds (fun _ h => by cases h) (by kernel_rfl) (fun _ h => by cases h) stampLatest_row_tie rfl ⟨rfl, rfl⟩ (by kernel_rfl) rfl
    (fun f fn hf hfn => by
      obtain rfl : f = 7 := Option.some.inj ((show Tryd.prog.funcNamed Rows.stampLatestRow.func = some 7 by kernel_rfl).symm.trans hf) |>.symm
      obtain rfl : fn = Tryd.f7 := (Option.some.inj (Tryd.func7.symm.trans hfn)).symm
      exact ⟨by kernel_rfl, fun j t ht => by
        rw [Tryd.params7] at ht
        have hm : t ∈ [37] := by simpa using Array.mem_of_getElem? ht
        have hall : ([37].all fun u => !Tryd.prog.wantsStandIn u) = true := by kernel_rfl
        exact (show Tryd.prog.wantsStandIn t = false by simpa using List.all_eq_true.1 hall t hm)⟩)
    (by kernel_rfl)
end Go.Proofs.YtgppadnbfggkcaaDoor
