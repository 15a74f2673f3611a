/- The law of what is kept. -/
import Derived.Test.YtjlpdoppnhcjoaaDoorJnZe
namespace Go.Proofs.YtjlpdoppnhcjoaaDoor
open Go.RowKit Go.Lib Go.Maps
attribute [local simp high] id_size n32_ne n34_ne file_size file_zero outcome_size n135_ne outcome_zero
/-- A map of the call's own that tells which texts were there. -/
structure SeenM (w : World) (B n : Nat) (D : DataW Unit) (K : List (List UInt8)) : Prop where
  own : w.ownsMap Tryd.prog 9 (plainElem Tryd.prog 3) B n D
  len : n = K.length
  tidy : Tidy D
  at_ : ∀ x, D.atKey (.string x) (.lit (.int .i64 0)) = .lit (.int .i64 (if x ∈ K then 1 else 0))
theorem SeenM.made (w : World) : SeenM (w.alloc (.map #[] 0)) w.heap.size 0 (.map []) [] :=
  ⟨World.ownsMap_made _ _ _ _, rfl, tidy_empty, fun x => by simp [DataW.atKey]⟩
theorem SeenM.kept {w w' : World} {B n : Nat} {D : DataW Unit} {K : List (List UInt8)} (h : SeenM w B n D K) (hk : w'.heap[B]? = w.heap[B]?) : SeenM w' B n D K := by
  refine ⟨?_, h.len, h.tidy, h.at_⟩
  obtain ⟨es, clock, hb, F, hs, hD⟩ := h.own
  exact ⟨es, clock, hk.trans hb, F, hs, hD⟩
theorem SeenM.put {w w' : World} {B n : Nat} {D : DataW Unit} {K : List (List UInt8)} (h : SeenM w B n D K) {x : List UInt8} (ho : w'.ownsMap Tryd.prog 9 (plainElem Tryd.prog 3) B (n + 1) (D.put (.string x) (.lit (.int .i64 1)))) :
    SeenM w' B (n + 1) (D.put (.string x) (.lit (.int .i64 1))) (K ++ [x]) := by
  have hk : WideAt.IsKeyLit (.string x) := trivial
  have hm := h.tidy.isMap
  refine ⟨ho, by rw [h.len]; simp, h.tidy.put hk _, fun y => ?_⟩
  by_cases e : y = x
  · subst e
    rw [atKey_put_same hm hk, if_pos (by simp)]
  · rw [atKey_put_other (lit_ne e), h.at_ y]
    by_cases hy : y ∈ K
    · rw [if_pos hy, if_pos (by simp [hy])]
    · rw [if_neg hy, if_neg (by simp [hy, e])]
theorem wpList_lookup_intW {P : Program} (w : World) {ops : Array Oper} {rest : List Oper} {o : Oper} {a : Act} {Q : Exit → Act → World → Prop}
    (hw : Region.wanted o (yielded ops a.tmps) = true) (m x : Operand) (t : TypeId) (hop : o.op = Op.lookup t m x false)
    (k e : TypeId) (q : IntKind) (K : Keyed P k) (ht : P.underlying t = some (.map k e)) (he : P.underlying e = some (.int q)) (hz : (zeroValue e).run P w = .ok (.int q 0) w) (b n : Nat) (D : DataW Unit)
    (hm : a.eval m = .map (some b)) (hown : w.ownsMap P k (plainElem P e) b n D) (key : Value) (kl : Lit) (hx : a.eval x = key) (hkey : keyOf P k key = some kl)
    (hK : ∀ c : Int, D.atKey kl (.lit (.int q 0)) = .lit (.int q c) → (Lit.int q c).wf = true → wpList P ops Q rest (a.put o.dst (.int q c)) w) :
    wpList P ops Q (o :: rest) a w :=
  wpList_step fun _ hK' => by
    rw [if_pos hw]
    obtain ⟨c, hrun, hat, hwc⟩ := hown.lookup_int K ht he hz hkey
    unfold Oper.wp
    simp [execOp, hop, hm, hx, hrun, Result.andThen]
    exact hK' _ _ (hK c hat hwc)
def hasF (l : Nat → List FileN) (p : List UInt8) (j i : Nat) : Value := .bool (decide (i < j) && hasE (l i) p)
def idsF (l : Nat → List FileN) (p : List UInt8) (j k : Nat) : Value := .int .u8 ((if k / 32 < j then idE (l (k / 32)) p (k % 32) else 0).toNat : Int)
theorem zero_ids (l : Nat → List FileN) (p : List UInt8) : Tryd.zeroCells40 = (rowL n96 (idsF l p 0)).toArray := by
  have e : rowL n96 (idsF l p 0) = rowL n96 (fun _ => .int .u8 0) := rowL_congr (fun k _ => by unfold idsF; rw [if_neg (by omega)]; rfl)
  have h : Tryd.zeroCells40 = (rowL n96 (fun _ => Value.int .u8 0)).toArray := by rfl
  rw [e]; exact h
theorem zero_has (l : Nat → List FileN) (p : List UInt8) : (rowL 3 (hasF l p 0)).toArray = #[.bool false, .bool false, .bool false] := by rfl
theorem ids_load {l : Nat → List FileN} {p : List UInt8} {w : World} {b : Nat} (h : RF w b 40 n96 (idsF l p 3)) {i : Nat} (hi : i < 3) : (loadCellsFrom ⟨b, i * n32, none⟩ 0 n32 #[]).run Tryd.prog w = .ok (bv (idL (idE (l i) p))).toArray w := by
  have e : n32 = 32 := rfl
  have q := load_row w b (i * n32) n32 (idF (idE (l i) p)) (fun k hk => by
    rw [h.cell (k := i * n32 + k) (by rw [e]; unfold n96; omega)]
    unfold idsF idF
    rw [e, show (i * 32 + k) / 32 = i by omega, show (i * 32 + k) % 32 = k by omega, if_pos hi])
  rw [idL_row] at q
  exact q
theorem hasF_no {l : Nat → List FileN} {p : List UInt8} {j : Nat} (h : hasE (l j) p = false) (k : Nat) : hasF l p j k = hasF l p (j + 1) k := by
  unfold hasF
  by_cases e : k = j
  · subst e; rw [h, Bool.and_false, Bool.and_false]
  · rw [show decide (k < j) = decide (k < j + 1) from decide_eq_decide.2 (by omega)]
theorem hasF_yes {l : Nat → List FileN} {p : List UInt8} {j : Nat} (h : hasE (l j) p = true) (k : Nat) : (if k = j then Value.bool true else hasF l p j k) = hasF l p (j + 1) k := by
  unfold hasF
  by_cases e : k = j
  · subst e; rw [if_pos rfl, h, Bool.and_true, decide_eq_true (by omega)]
  · rw [if_neg e, show decide (k < j) = decide (k < j + 1) from decide_eq_decide.2 (by omega)]
theorem idsF_no {l : Nat → List FileN} {p : List UInt8} {j : Nat} (h : hasE (l j) p = false) (k : Nat) : idsF l p j k = idsF l p (j + 1) k := by
  unfold idsF
  by_cases e : k / 32 = j
  · have hz : idE (l (k / 32)) p = fun _ => 0 := by rw [e]; unfold idE; rw [if_neg (by rw [h]; decide)]
    rw [hz, if_neg (by omega), if_pos (by omega)]
  · by_cases e2 : k / 32 < j
    · rw [if_pos e2, if_pos (by omega)]
    · rw [if_neg e2, if_neg (by omega)]
theorem idsF_yes {l : Nat → List FileN} {p : List UInt8} {j : Nat} (k : Nat) : (if j * n32 ≤ k ∧ k < j * n32 + n32 then idF (idE (l j) p) (k - j * n32) else idsF l p j k) = idsF l p (j + 1) k := by
  have e : n32 = 32 := rfl
  rw [e]
  by_cases hk : j * 32 ≤ k ∧ k < j * 32 + 32
  · rw [if_pos hk]
    unfold idsF idF
    have e1 : k / 32 = j := by omega
    rw [e1, if_pos (by omega), show k % 32 = k - j * 32 by omega]
  · rw [if_neg hk]
    unfold idsF
    by_cases e2 : k / 32 < j
    · rw [if_pos e2, if_pos (by omega)]
    · rw [if_neg e2, if_neg (by omega)]
set_option maxRecDepth 100000 in
set_option maxHeartbeats 16000000 in
theorem jkeeps_law (a : Nat → Option Addr) (c : Nat → Nat) (l : Nat → List FileN) (bv0 : Value) (bs : List BlobN) (w : World) (hr : ∀ i, i < 3 → FilesC (fun k => k < w.heap.size) w (.slice (a i) (l i).length (c i)) (l i)) (hp : ∀ i, i < 3 → ∀ f ∈ l i, f.path.length ≤ 4194304 ∧ f.stamp < 18446744073709551616) (hl : ∀ i, i < 3 → (l i).length ≤ 4194304)
    (hb : RawsC (fun k => k < w.heap.size) w bv0 bs) (hbl : bs.length ≤ 1048576) (hsum : sumB bs ≤ 1048576) (hE : PEnv w) :
    Calls Tryd.prog 5 #[.agg #[.slice (a 0) (l 0).length (c 0), .slice (a 1) (l 1).length (c 1), .slice (a 2) (l 2).length (c 2)], bv0] w fun e w' => e = .returned (.bool true) ∧ Below w.heap.size w w' := by
  obtain ⟨ba, bc, rfl⟩ := RowsC.shape hb
  have k1 := new_five w #[.slice (a 0) (l 0).length (c 0), .slice (a 1) (l 1).length (c 1), .slice (a 2) (l 2).length (c 2)] 26
  have HB0 := Lib.hid ((Below.refl w.heap.size w).alloc (Nat.le_refl _) (.cells #[.slice (a 0) (l 0).length (c 0), .slice (a 1) (l 1).length (c 1), .slice (a 2) (l 2).length (c 2)] 26))
  have HSZ : Hid (w.heap.size < (w.alloc (.cells #[.slice (a 0) (l 0).length (c 0), .slice (a 1) (l 1).length (c 1), .slice (a 2) (l 2).length (c 2)] 26)).heap.size) := Lib.hid (by simp)
  have HK := Lib.hid k1
  have HR := Lib.hid (fun (W : World) (hW : Below w.heap.size w W) i (hi : i < 3) => (show FilesC (fun k => k < w.heap.size) W (.slice (a i) (l i).length (c i)) (l i) from (hr i hi).kept file_keeps (fun q hq => ⟨hq, hW.block q hq⟩)))
  have HBL := Lib.hid (fun (W : World) (hW : Below w.heap.size w W) => (show RawsC (fun k => k < w.heap.size) W (.slice ba bs.length bc) bs from RowsC.kept raw_keeps hb (fun q hq => ⟨hq, hW.block q hq⟩)))
  have HP := Lib.hid hp
  have HLL := Lib.hid hl
  have HE := Lib.hid hE
  clear k1 hr hp hl hE hb
  go_enter Tryd.func5, Tryd.ntmps5
  go_upto_region 1 with fail
  generalize w.alloc (.cells #[.slice (a 0) (l 0).length (c 0), .slice (a 1) (l 1).length (c 1), .slice (a 2) (l 2).length (c 2)] 26) = w1 at *
  go_wp2_with fail
  refine (awakeJ_any w1 (HE.out.on HB0.out)).mono ?_
  rintro e w2 ⟨rfl, hb2⟩
  have HB2 := Lib.hid hb2
  have HBW2 : Hid (Below w.heap.size w w2) := Lib.hid (HB0.out.trans (hb2.mono HB0.out.size))
  have HBW1 := Lib.hid (fun (W : World) (hW : Below w1.heap.size w1 W) => HB0.out.trans (hW.mono HB0.out.size))
  have HCE := Lib.hid (fun (W : World) (hW : Below w1.heap.size w1 W) => (show W.cell? ⟨w.heap.size, 0, none⟩ = some (.slice (a 0) (l 0).length (c 0)) ∧ W.cell? ⟨w.heap.size, 1, none⟩ = some (.slice (a 1) (l 1).length (c 1)) ∧ W.cell? ⟨w.heap.size, 2, none⟩ = some (.slice (a 2) (l 2).length (c 2)) from by
    have hi := (hW.block w.heap.size HSZ.out).trans HK.out
    exact ⟨by rw [cell_of_row _ _ _ _ _ _ hi]; rfl, by rw [cell_of_row _ _ _ _ _ _ hi]; rfl, by rw [cell_of_row _ _ _ _ _ _ hi]; rfl⟩))
  clear hb2
  obtain ⟨b0, b1, b2⟩ := HCE.out w2 HB2.out
  have HSA := Lib.hid (small_any (fun k => k < w.heap.size) a c l (.slice ba bs.length bc) bs w2 (fun _ h => Nat.lt_of_lt_of_le h HBW2.out.size) (HBL.out w2 HBW2.out) (by omega) (by omega) HLL.out)
  obtain ⟨sb, hsb⟩ : ∃ b, smallB l bs = b := ⟨_, rfl⟩
  rw [hsb] at HSA
  have HSB := Lib.hid hsb
  clear hsb
  go_wp2_with fail
  refine HSA.out.mono ?_
  rintro e w3 ⟨rfl, hb3⟩
  have HB3 := Lib.hid (HB2.out.trans (hb3.mono HB2.out.size))
  have HBW3 : Hid (Below w.heap.size w w3) := Lib.hid (HBW2.out.trans (hb3.mono HBW2.out.size))
  clear hb3 b0 b1 b2 HSA HB2 HBW2
  cases sb
  · go_wp2_with fail
    go_ret
    exact ⟨rfl, HBW3.out⟩
  have HSM : Hid (sumB bs ≤ 600 ∧ totN l ≤ 90) := Lib.hid (by
    have h := HSB.out
    unfold smallB at h
    rw [Bool.and_eq_true] at h
    exact ⟨of_decide_eq_true h.1, of_decide_eq_true h.2⟩)
  clear HSB HBW3
  have HT6 : Hid (∀ b ∈ bs, b.text.length ≤ 600) := Lib.hid (fun b hb => Nat.le_trans (sumB_mem hb) HSM.out.1)
  go_upto_region 5 with fail
  have BD : Hid (Below w1.heap.size w1 w3.drew) := Lib.hid (HB3.out.trans (drewn _ w3 1))
  refine wp_region_held_drew (S := (fun W => W.cell? ⟨w.heap.size, 0, none⟩ = some (.slice (a 0) (l 0).length (c 0)) ∧ W.cell? ⟨w.heap.size, 1, none⟩ = some (.slice (a 1) (l 1).length (c 1)) ∧ W.cell? ⟨w.heap.size, 2, none⟩ = some (.slice (a 2) (l 2).length (c 2)))) (by kernel_rfl) (by exact HCE.out _ (Hid.out (by assumption))) (fun hHeld => ?_)
  clear HB3
  generalize w3.drew = wd at *
  refine wpAnyH_take (i := 0) (oi := ⟨_, _, _, _, _, _⟩) (v := ?_) rfl (by kernel_rfl) (by kernel_rfl) (by kernel_rfl) (fun _ _ _ h => h) (Or.inl ⟨by rfl, ?_⟩) (by assumption) ?_
  rotate_left
  · intro w hSw; (try dsimp only at hSw); first | (go_simp; done) | (go_simp; with_reducible rfl)
  try simp only [Act.put, List.setIfInBounds_toArray, List.set_cons_zero, List.set_cons_succ]
  refine wpAnyH_take (i := 1) (oi := ⟨_, _, _, _, _, _⟩) (v := ?_) rfl (by kernel_rfl) (by kernel_rfl) (by kernel_rfl) (fun _ _ _ h => h) (Or.inl ⟨by rfl, ?_⟩) (by assumption) ?_
  rotate_left
  · intro w hSw; (try dsimp only at hSw); first | (go_simp; done) | (go_simp; with_reducible rfl)
  try simp only [Act.put, List.setIfInBounds_toArray, List.set_cons_zero, List.set_cons_succ]
  refine wpAnyH_ready (rs := [2]) (by kernel_rfl) (by simp) ?_
  refine AllReadyH.cons (o := ⟨_, _, _, _, _, _⟩) rfl (fun K hK => ?_) AllReadyH.nil
  go_simp
  refine (laid_any (fun k => k < w.heap.size) (.slice ba bs.length bc) bs wd (fun _ h => Nat.lt_of_lt_of_le h (HBW1.out _ BD.out).size) (HBL.out wd (HBW1.out _ BD.out)) (fun b hb => Nat.le_trans (HT6.out b hb) (by omega)) (by omega)).mono ?_
  rintro e w4 ⟨v4, rfl, hl4, hb4⟩
  have B4 : Hid (Below w1.heap.size w1 w4) := Lib.hid (BD.out.trans (hb4.mono BD.out.size))
  have HL4 : Hid (BlobsC (fun q => q < w4.heap.size) w4 v4 bs) := Lib.hid (RowsC.kept blob_keeps hl4 (fun q hq => ⟨hq.2, rfl⟩))
  obtain ⟨la4, lc4, rfl⟩ := RowsC.shape hl4
  clear hl4 hb4 BD
  try go_wp2_with fail
  refine hK.out _ _ (by exact HCE.out _ (Hid.out (by assumption))) (fun hHeld => ?_)
  clear hK K
  try simp only [Act.put, List.setIfInBounds_toArray, List.set_cons_zero, List.set_cons_succ]
  refine wpAnyH_take (i := 3) (oi := ⟨_, _, _, _, _, _⟩) (v := ?_) rfl (by kernel_rfl) (by kernel_rfl) (by kernel_rfl) (fun _ _ _ h => h) (Or.inl ⟨by rfl, ?_⟩) (by assumption) ?_
  rotate_left
  · intro w hSw; (try dsimp only at hSw); first | (go_simp; done) | (go_simp; with_reducible rfl)
  try simp only [Act.put, List.setIfInBounds_toArray, List.set_cons_zero, List.set_cons_succ]
  refine wpAnyH_take (i := 4) (oi := ⟨_, _, _, _, _, _⟩) (v := ?_) rfl (by kernel_rfl) (by kernel_rfl) (by kernel_rfl) (fun _ _ _ h => h) (Or.inl ⟨by rfl, ?_⟩) (by assumption) ?_
  rotate_left
  · intro w hSw; (try dsimp only at hSw); first | (go_simp; done) | (go_simp; with_reducible rfl)
  try simp only [Act.put, List.setIfInBounds_toArray, List.set_cons_zero, List.set_cons_succ]
  refine wpAnyH_ready (rs := [5]) (by kernel_rfl) (by simp) ?_
  refine AllReadyH.cons (o := ⟨_, _, _, _, _, _⟩) rfl (fun K hK => ?_) AllReadyH.nil
  go_simp
  refine (show Calls Tryd.prog 10 #[.agg #[.slice (a 0) (l 0).length (c 0), .slice (a 1) (l 1).length (c 1), .slice (a 2) (l 2).length (c 2)], .iface 33 (.agg #[.slice la4 bs.length lc4])] w4 (MergQ (mergeT (fun f => textOf f bs) l) w4) from merg_any (fun q => q < w4.heap.size) (.slice la4 bs.length lc4) bs a c l w4 (fun _ h => h) HL4.out (by omega) HT6.out (fun i hi => (HR.out w4 (HBW1.out _ B4.out) i hi).kept file_keeps (fun q hq => ⟨Nat.lt_of_lt_of_le hq (HBW1.out _ B4.out).size, rfl⟩)) (fun i hi f hf => (HP.out i hi f hf).1) (fun i hi f hf => (HP.out i hi f hf).2) (HE.out.on (HBW1.out _ B4.out))).mono ?_
  rintro e w5 ⟨hb5, v5, c5, rfl, hc5, hz5, hm5⟩
  have B5 : Hid (Below w1.heap.size w1 w5) := Lib.hid (B4.out.trans (hb5.mono B4.out.size))
  have HC5 := Lib.hid hc5
  have HZ5 := Lib.hid hz5
  have HM5 : Hid (c5 = 0 → ∃ ms : List OutM, ms.map bare = (mergeT (fun f => textOf f bs) l).2 ∧ OutsC (fun k => k < w5.heap.size) w5 v5 ms) := Lib.hid (fun h => by obtain ⟨ms, h1, h2⟩ := hm5 h; exact ⟨ms, h1, RowsC.kept out_keeps h2 (fun q hq => ⟨hq.2, rfl⟩)⟩)
  clear hb5 hc5 hz5 hm5 HL4 B4
  try go_wp2_with fail
  refine hK.out _ _ (by exact HCE.out _ (Hid.out (by assumption))) (fun hHeld => ?_)
  clear hK K
  try simp only [Act.put, List.setIfInBounds_toArray, List.set_cons_zero, List.set_cons_succ]
  refine wpAnyH_take (i := 6) (oi := ⟨_, _, _, _, _, _⟩) (v := ?_) rfl (by kernel_rfl) (by kernel_rfl) (by kernel_rfl) (fun _ _ _ h => h) (Or.inl ⟨by rfl, ?_⟩) (by assumption) ?_
  rotate_left
  · intro w hSw; (try dsimp only at hSw); first | (go_simp; done) | (go_simp; with_reducible rfl)
  try simp only [Act.put, List.setIfInBounds_toArray, List.set_cons_zero, List.set_cons_succ]
  refine wpAnyH_take (i := 7) (oi := ⟨_, _, _, _, _, _⟩) (v := ?_) rfl (by kernel_rfl) (by kernel_rfl) (by kernel_rfl) (fun _ _ _ h => h) (Or.inl ⟨by rfl, ?_⟩) (by assumption) ?_
  rotate_left
  · intro w hSw; (try dsimp only at hSw); first | (go_simp; done) | (go_simp; with_reducible rfl)
  try simp only [Act.put, List.setIfInBounds_toArray, List.set_cons_zero, List.set_cons_succ]
  refine wpAnyH_take (i := 8) (oi := ⟨_, _, _, _, _, _⟩) (v := ?_) rfl (by kernel_rfl) (by kernel_rfl) (by kernel_rfl) (fun _ _ _ h => h) (Or.inl ⟨by rfl, ?_⟩) (by assumption) ?_
  rotate_left
  · intro w hSw; (try dsimp only at hSw); first | (go_simp; done) | (go_simp; with_reducible rfl)
  try simp only [Act.put, List.setIfInBounds_toArray, List.set_cons_zero, List.set_cons_succ]
  refine wpAnyH_take (i := 9) (oi := ⟨_, _, _, _, _, _⟩) (v := ?_) rfl (by kernel_rfl) (by kernel_rfl) (by kernel_rfl) (fun _ _ _ h => h) (Or.inl ⟨by rfl, ?_⟩) (by assumption) ?_
  rotate_left
  · intro w hSw; (try dsimp only at hSw); first | (go_simp; done) | (go_simp; with_reducible rfl)
  try simp only [Act.put, List.setIfInBounds_toArray, List.set_cons_zero, List.set_cons_succ]
  refine wpAnyH_take (i := 10) (oi := ⟨_, _, _, _, _, _⟩) (v := ?_) rfl (by kernel_rfl) (by kernel_rfl) (by kernel_rfl) (fun _ _ _ h => h) (Or.inl ⟨by rfl, ?_⟩) (by assumption) ?_
  rotate_left
  · intro w hSw; (try dsimp only at hSw); first | (go_simp; done) | (go_simp; with_reducible rfl)
  try simp only [Act.put, List.setIfInBounds_toArray, List.set_cons_zero, List.set_cons_succ]
  refine wpAnyH_done (by kernel_rfl) ?_ _
  have hs5 := B5.out.size
  by_cases h0 : c5 = 0
  · subst h0
    obtain ⟨ms, hms, ho5⟩ := HM5.out rfl
    have hK := merge_keeps (T := fun f => textOf f bs) (l := l) (fun i hi f hf => (HP.out i hi f hf).2) HC5.out.symm
    have hpa : pathsO (mergeT (fun f => textOf f bs) l).2 = pathsO ms := by rw [← hms]; unfold pathsO; rw [List.map_map]; rfl
    have hlm : ms.length ≤ 90 := by
      have h := mergeT_len (fun f => textOf f bs) l
      rw [← hms, List.length_map] at h
      have := HSM.out.2
      omega
    have hps := merge_paths (T := fun f => textOf f bs) (l := l) (fun i hi f hf => (HP.out i hi f hf).2) HC5.out.symm
    rw [hpa] at hK hps
    have HPS := Lib.hid hps
    clear hps
    have HKP : Hid (∀ m ∈ ms, KeepsP l m) := Lib.hid (fun m hm => keeps_bare (hK.1 (bare m) (by rw [← hms]; exact List.mem_map.2 ⟨m, hm, rfl⟩)))
    have HND := Lib.hid hK.2.1
    have HCV := Lib.hid hK.2.2
    have HO5 := Lib.hid (fun (W : World) (hW : Below w5.heap.size w5 W) => (show OutsC (fun q => q < w5.heap.size) W v5 ms from RowsC.kept out_keeps ho5 (fun q hq => ⟨hq, hW.block q hq⟩)))
    obtain ⟨ma, mc, rfl⟩ := RowsC.shape ho5
    have HB15 := Lib.hid (fun (W : World) (hW : Below w5.heap.size w5 W) => B5.out.trans (hW.mono hs5))
    have hmm := @run_makeMap Tryd.prog
    have HSN := Lib.hid (SeenM.made w5)
    have HB60 : Hid (Below w5.heap.size w5 (w5.alloc (.map #[] 0))) := Lib.hid ((Below.refl w5.heap.size w5).alloc (Nat.le_refl _) (.map #[] 0))
    clear hms ho5 hK hpa HM5 HC5 HZ5
    go_upto_region 9 with fail
    clear hmm
    generalize w5.alloc (.map #[] 0) = w6 at *
    obtain ⟨mb, hmb⟩ : ∃ n, w5.heap.size = n := ⟨_, rfl⟩
    have HMB : Hid (w5.heap.size = mb) := Lib.hid hmb
    rw [hmb] at HSN ⊢
    clear hmb
    have hlp : (pathsO ms).length = ms.length := by unfold pathsO; rw [List.length_map]
    have HLP := Lib.hid hlp
    clear hlp
    go_wp2_with fail
    go_loopw [45] (fun i wr => ∃ (k n' : Nat) (D' : DataW Unit), k ≤ ms.length ∧ i = .int .i64 (k : Int) ∧ Hid (SeenM wr mb n' D' ((pathsO ms).take k)) ∧ Hid (Below w5.heap.size w5 wr)) (fun i _ => ms.length - (intOf i).toNat)
    case atStart => exact ⟨0, 0, _, Nat.zero_le _, rfl, HSN, HB60⟩
    case round =>
      clear HSN HB60
      obtain ⟨k, n', D', hk, rfl, hN, hB⟩ := hrel
      by_cases hlt : k < ms.length
      · obtain ⟨g1, o1, e1, hg1, _, _, hat1⟩ := OutsC.at (HO5.out wr hB.out) (by omega)
        obtain ⟨hbx, hck⟩ := hat1 k hlt
        have h1 := out_one _ (tv_one hbx) n135
        have HX : Hid (KeepsP l (ms.getD k noneM)) := Lib.hid (HKP.out _ (by simp [List.getD, hlt]))
        have hpk : (pathsO ms)[k]? = some (ms.getD k noneM).1.path := by unfold pathsO; simp [List.getD, hlt]
        have HTK : Hid ((pathsO ms).take (k + 1) = (pathsO ms).take k ++ [(ms.getD k noneM).1.path]) := Lib.hid (by rw [List.take_add_one, hpk]; rfl)
        have HNI : Hid ((ms.getD k noneM).1.path ∉ (pathsO ms).take k) := Lib.hid (fun hm => by
          obtain ⟨j, hj, e⟩ := List.getElem_of_mem hm
          rw [List.length_take] at hj
          have hnd := List.pairwise_iff_getElem.1 HND.out j k (by omega) (by rw [HLP.out]; omega) (by omega)
          rw [List.getElem_take] at e
          apply hnd
          rw [e]
          have := (List.getElem?_eq_some_iff.1 hpk).2
          exact this.symm)
        have HPL : Hid ((ms.getD k noneM).1.path.length ≤ 4194304) := Lib.hid (by
          obtain ⟨i, hi, f, hf, e⟩ := HPS.out _ (by unfold pathsO; exact List.mem_map.2 ⟨ms.getD k noneM, by simp [List.getD, hlt], rfl⟩)
          rw [e]; exact (HP.out i hi f hf).1)
        clear hat1 hbx hpk
        obtain ⟨x, hx⟩ : ∃ x, ms.getD k noneM = x := ⟨_, rfl⟩
        rw [hx] at hck h1 HX HTK HNI HPL
        clear hx
        rw [e1]
        have c1 := load_row wr g1 (o1 + k * n135) n135 (outF x.1) (fun j hj => hck j (by unfold n135 at hj; exact hj))
        have i1 := RF.new wr 42 n135 (outF noOut)
        have c2 := i1.write h1
        have HI := Lib.hid (i1.put (outF x.1))
        have HW := Lib.hid (below_setRow ((Below.refl wr.heap.size wr).alloc (Nat.le_refl _) (.cells (rowL n135 (outF noOut)).toArray 42)) (Nat.le_refl _) (rowL n135 (outF x.1)).toArray)
        have hol := rowL_len n135 (outF x.1)
        have hol2 := rowL_len n135 (outF noOut)
        have hmlt := hN.out.own.lt
        clear hck i1 h1 e1
        go_upto_region 12 with fail
        clear c1 c2 hol hol2
        generalize (wr.alloc (.cells (rowL n135 (outF noOut)).toArray 42)).setRow wr.heap.size (rowL n135 (outF x.1)).toArray = w7 at *
        have HB7 : Hid (Below w5.heap.size w5 w7) := Lib.hid (hB.out.trans (HW.out.mono hB.out.size))
        have HN7 := Lib.hid (hN.out.kept (w' := w7) (HW.out.block mb hmlt))
        have d0 : w7.cell? ⟨wr.heap.size, 0, none⟩ = some (.string ⟨x.1.path.toArray⟩) := HI.out.cell (k := 0) (by unfold n135; omega)
        obtain ⟨p, hpx⟩ : ∃ p, x.1.path = p := ⟨_, rfl⟩
        rw [hpx] at d0 HTK HNI HPL
        have HPX := Lib.hid hpx
        have hpl := HPL.out
        have hkey : keyOf Tryd.prog 9 (.string ⟨p.toArray⟩) = some (.string p) := by
          have := Go.WideMaps.keyOf_string_mk Tryd.underlying9 (s := ⟨p.toArray⟩) (by unfold maxLen; simp [ByteArray.size]; omega)
          simpa using this
        have HAT : Hid (D'.atKey (.string p) (.lit (.int .i64 0)) = .lit (.int .i64 0)) := Lib.hid (by rw [HN7.out.at_ p, if_neg HNI.out])
        have hn9 : n' ≤ 90 := by
          rw [hN.out.len, List.length_take]; omega
        have hmw := HMB.out
        have hmr : mb < wr.heap.size := hmlt
        clear hpx hB hN
        go_wp2_with (first | (at_lookup; refine wpList_lookup_own_int _ rfl _ _ 57 rfl 9 3 .i64 keyLaw Tryd.underlying57 Tryd.underlying3 (zeroInt _) mb n' D' rfl HN7.out.own _ _ rfl hkey ?_; intro cv hat hwc; obtain rfl := cv_of hat HAT.out; clear hat hwc) | (at_mapUpdate; refine wpList_mapUpdate_own _ rfl _ _ _ 57 rfl 9 3 keyLaw Tryd.underlying57 _ mb n' _ rfl HN7.out.own (by unfold maxLen; omega) _ _ _ rfl rfl hkey _ [] (plainElem_int Tryd.underlying3 (show (Lit.int .i64 1).wf = true by decide)) ?_; intro w8 hown8 hgrow8; have N8 := Lib.hid (HN7.out.put hown8); have G8 := Lib.hid hgrow8; have hs8 := hgrow8.size; have HB8 : Hid (Below w5.heap.size w5 w8) := Lib.hid (HB7.out.grown hgrow8 (by have := HB7.out.size; omega) (fun q hq => by injection hq with hq; omega)); obtain ⟨b0, b1, b2⟩ := HCE.out w8 (HB15.out w8 HB8.out); clear hown8 hgrow8))
        have HI8 : Hid (RF w8 wr.heap.size 42 n135 (outF x.1)) := Lib.hid (HI.out.kept (G8.out.block wr.heap.size HI.out.lt (fun e => by injection e with e; omega)))
        have hfb8 := HI8.out.lt
        have HBW8 : Hid (Below w.heap.size w w8) := Lib.hid (HBW1.out _ (HB15.out w8 HB8.out))
        obtain ⟨fb, hfb⟩ : ∃ n, wr.heap.size = n := ⟨_, rfl⟩
        rw [hfb] at HI8 hfb8 hmr ⊢
        clear b0 b1 b2 hkey hpl HAT HN7 HNI d0 hs8 hfb
        have hmb8 : mb < w8.heap.size := by omega
        go_loopw [10, 55] (fun n i wr => ∃ (q cnt : Nat), q ≤ 3 ∧ i = .int .i64 (q : Int) ∧ n = .int .i64 (cnt : Int) ∧ cnt ≤ q ∧ Hid (∀ j, j < q → x.1.has j = true → idL (x.1.ids j) = idL x.1.id → 0 < cnt) ∧ Hid (Below w8.heap.size w8 wr)) (fun _ i _ => 3 - (intOf i).toNat)
        case atStart => exact ⟨0, 0, by omega, rfl, rfl, Nat.le_refl _, Lib.hid (fun j hj => by omega), Lib.hid (Below.refl _ _)⟩
        case round =>
          obtain ⟨q, cnt, hq, rfl, rfl, hcq, hC, hB⟩ := hrel
          by_cases hq3 : q < 3
          · have hix := fun W => (show (Instr.index 26 (.agg #[.slice (a 0) (l 0).length (c 0), .slice (a 1) (l 1).length (c 1), .slice (a 2) (l 2).length (c 2)]) (.int .i64 (q : Int))).run Tryd.prog W = .ok (.slice (a q) (l q).length (c q)) W from index_left (fun i => .slice (a i) (l i).length (c i)) hq3 W)
            have HRQ := Lib.hid (fun (W : World) (hW : Below w.heap.size w W) => HR.out W hW q hq3)
            have HLQ := Lib.hid (show (l q).length ≤ 90 from by
              have h := HSM.out.2
              unfold totN at h
              have h3 : q = 0 ∨ q = 1 ∨ q = 2 := by omega
              rcases h3 with rfl | rfl | rfl <;> omega)
            have HXQ := Lib.hid (HX.out.1 q hq3)
            rw [HPX.out] at HXQ
            have HBWr : Hid (Below w.heap.size w wr) := Lib.hid (HBW8.out.trans (hB.out.mono HBW8.out.size))
            go_upto_region 17 with fail
            clear hix
            generalize l q = lq at *
            generalize a q = aq at *
            generalize c q = cq at *
            have BD : Hid (Below w8.heap.size w8 wr.drew) := Lib.hid (hB.out.trans ((drewn _ wr 1).mono hB.out.size))
            have HPC := Lib.hid (fun (W : World) (hW : Below w8.heap.size w8 W) => (show W.cell? ⟨fb, 0, none⟩ = some (.string ⟨p.toArray⟩) from by
              rw [World.cell?_of_block (w := w8) (hW.block fb hfb8), HI8.out.cell (k := 0) (by unfold n135; omega)]
              show some (Value.string ⟨x.1.path.toArray⟩) = _
              rw [HPX.out]))
            refine wp_region_held_drew (S := (fun W => W.cell? ⟨fb, 0, none⟩ = some (.string ⟨p.toArray⟩))) (by kernel_rfl) (by exact HPC.out _ (Hid.out (by assumption))) (fun hHeld => ?_)
            clear hB HBWr
            generalize wr.drew = wz at *
            refine wpAnyH_take (i := 0) (oi := ⟨_, _, _, _, _, _⟩) (v := ?_) rfl (by kernel_rfl) (by kernel_rfl) (by kernel_rfl) (fun _ _ _ h => h) (Or.inl ⟨by rfl, ?_⟩) (by assumption) ?_
            rotate_left
            · intro w hSw; (try dsimp only at hSw); first | (go_simp; done) | (go_simp; with_reducible rfl)
            try simp only [Act.put, List.setIfInBounds_toArray, List.set_cons_zero, List.set_cons_succ]
            refine wpAnyH_take (i := 2) (oi := ⟨_, _, _, _, _, _⟩) (v := ?_) rfl (by kernel_rfl) (by kernel_rfl) (by kernel_rfl) (fun _ _ _ h => h) (Or.inl ⟨by rfl, ?_⟩) (by assumption) ?_
            rotate_left
            · intro w hSw; (try dsimp only at hSw); first | (go_simp; done) | (go_simp; with_reducible rfl)
            try simp only [Act.put, List.setIfInBounds_toArray, List.set_cons_zero, List.set_cons_succ]
            refine wpAnyH_take (i := 3) (oi := ⟨_, _, _, _, _, _⟩) (v := ?_) rfl (by kernel_rfl) (by kernel_rfl) (by kernel_rfl) (fun _ _ _ h => h) (Or.inl ⟨by rfl, ?_⟩) (by assumption) ?_
            rotate_left
            · intro w hSw; (try dsimp only at hSw); first | (go_simp; done) | (go_simp; with_reducible rfl)
            try simp only [Act.put, List.setIfInBounds_toArray, List.set_cons_zero, List.set_cons_succ]
            refine wpAnyH_ready (rs := [1]) (by kernel_rfl) (by simp) ?_
            refine AllReadyH.cons (o := ⟨_, _, _, _, _, _⟩) rfl (fun K hK => ?_) AllReadyH.nil
            go_simp
            refine (plain_any (fun k => k < w.heap.size) (.slice aq lq.length cq) lq wz (fun _ h => Nat.lt_of_lt_of_le h (HBW8.out.trans (BD.out.mono HBW8.out.size)).size) (HRQ.out wz (HBW8.out.trans (BD.out.mono HBW8.out.size))) (by have := HLQ.out; omega)).mono ?_
            rintro e w9 ⟨v9, rfl, hl9, hb9⟩
            have B9 : Hid (Below w8.heap.size w8 w9) := Lib.hid (BD.out.trans (hb9.mono BD.out.size))
            have HL9 : Hid (FilesC (fun q => q < w9.heap.size) w9 v9 lq) := Lib.hid (RowsC.kept file_keeps hl9 (fun q hq => ⟨hq.2, rfl⟩))
            obtain ⟨la9, lc9, rfl⟩ := RowsC.shape hl9
            clear hl9 hb9 BD
            try go_wp2_with fail
            refine hK.out _ _ (by exact HPC.out _ (Hid.out (by assumption))) (fun hHeld => ?_)
            clear hK K
            try simp only [Act.put, List.setIfInBounds_toArray, List.set_cons_zero, List.set_cons_succ]
            refine wpAnyH_ready (rs := [4]) (by kernel_rfl) (by simp) ?_
            refine AllReadyH.cons (o := ⟨_, _, _, _, _, _⟩) rfl (fun K hK => ?_) AllReadyH.nil
            go_simp
            refine (find_any (fun q => q < w9.heap.size) (.slice la9 lq.length lc9) lq p w9 HL9.out (by have := HLQ.out; omega)).mono ?_
            rintro e w10 ⟨rfl, rfl⟩
            clear HL9
            try go_wp2_with fail
            refine hK.out _ _ (by exact HPC.out _ (Hid.out (by assumption))) (fun hHeld => ?_)
            clear hK K
            try simp only [Act.put, List.setIfInBounds_toArray, List.set_cons_zero, List.set_cons_succ]
            refine wpAnyH_take (i := 5) (oi := ⟨_, _, _, _, _, _⟩) (v := ?_) rfl (by kernel_rfl) (by kernel_rfl) (by kernel_rfl) (fun _ _ _ h => h) (Or.inl ⟨by rfl, ?_⟩) (by assumption) ?_
            rotate_left
            · intro w hSw; (try dsimp only at hSw); first | (go_simp; done) | (go_simp; with_reducible rfl)
            try simp only [Act.put, List.setIfInBounds_toArray, List.set_cons_zero, List.set_cons_succ]
            refine wpAnyH_done (by kernel_rfl) ?_ _
            have hs8 := B9.out.size
            have HOF := Lib.hid (fun n => (show RF (w10.drewN n) fb 42 n135 (outF x.1) from HI8.out.kept (B9.out.block fb hfb8)))
            rcases findN_range (p := p) lq 0 with hF | ⟨j, hj, hF⟩
            · have hhs : x.1.has q = false := by rw [HXQ.out.1]; unfold hasE; rw [hF]; decide
              rw [hF]
              have z1 : ∀ n, (w10.drewN n).cell? ⟨fb, 36 + q, none⟩ = some (.bool false) := fun n => by rw [← hhs]; exact outc_has (HOF.out n) hq3
              have HC2 : Hid (∀ j, j < q + 1 → x.1.has j = true → idL (x.1.ids j) = idL x.1.id → 0 < cnt) := Lib.hid (fun j hj h1 h2 => by
                by_cases e : j = q
                · rw [e, hhs] at h1; cases h1
                · exact hC.out j (by omega) h1 h2)
              clear hF hhs
              go_upto_region 18 with fail
              go_quiet (fail)
              clear z1
              have HB11 : Hid (Below w8.heap.size w8 (w10.drewN nq)) := Lib.hid (B9.out.trans ((drewn _ _ _).mono hs8))
              generalize w10.drewN nq = w11 at *
              go_upto_region 20 with fail
              go_quiet (fail)
              have HB12 : Hid (Below w8.heap.size w8 (w11.drewN nq)) := Lib.hid (HB11.out.trans ((drewn _ _ _).mono HB11.out.size))
              generalize w11.drewN nq = w12 at *
              go_wp2_with fail
              exact ⟨⟨q + 1, cnt, by omega, by go_num, rfl, by omega, HC2, HB12⟩, by simp [intOf]; omega⟩
            · rw [Nat.zero_add] at hF
              have hE : hasE lq p = true := by unfold hasE; rw [hF]; exact decide_eq_true (by omega)
              have hhs : x.1.has q = true := by rw [HXQ.out.1, hE]
              have hid : idL (x.1.ids q) = idL (lq.getD j noFile).id := by
                rw [HXQ.out.2]; unfold idE fileE; rw [if_pos hE, hF]; rfl
              obtain ⟨g2, o2, e2, hg2, hld⟩ := file_idc (HRQ.out w10 (HBW8.out.trans (B9.out.mono HBW8.out.size))) hj
              rw [hF, e2]
              have hjl : (j : Int) < (lq.length : Int) := by omega
              have hj0 : decide ((j : Int) ≥ 0) = true := decide_eq_true (by omega)
              have hj1 : decide ((0 : Int) ≤ (j : Int)) = true := decide_eq_true (by omega)
              have z1 : ∀ n, (w10.drewN n).cell? ⟨fb, 36 + q, none⟩ = some (.bool true) := fun n => by rw [← hhs]; exact outc_has (HOF.out n) hq3
              have z2 : ∀ n, (loadCellsFrom ⟨fb, 39 + q * n32, none⟩ 0 n32 #[]).run Tryd.prog (w10.drewN n) = .ok (bv (idL (lq.getD j noFile).id)).toArray (w10.drewN n) := fun n => by rw [← hid]; exact outc_ids (HOF.out n) hq3
              have z3 := fun n => hld (w10.drewN n) rfl
              have HLD := Lib.hid hld
              have HY := Lib.hid hid
              have hng := fun W => id_neq W (idL_len (lq.getD j noFile).id) (idL_len (lq.getD j noFile).id)
              rw [decide_eq_false (fun h => h rfl)] at hng
              have hol : (bv (idL (lq.getD j noFile).id)).length = n32 := by rw [bv_len, idL_len]; rfl
              have HZ4 := Lib.hid (fun (W : World) (hW : W.heap = w10.heap) => outc_id (RF.kept (w' := W) (HOF.out 0) (by rw [hW]; rfl)))
              have heq := fun W => id_eql W (idL_len (lq.getD j noFile).id) (idL_len x.1.id)
              have hol2 : (bv (idL x.1.id)).length = n32 := by rw [bv_len, idL_len]; rfl
              obtain ⟨tq, htq⟩ : ∃ t, decide (idL (lq.getD j noFile).id = idL x.1.id) = t := ⟨_, rfl⟩
              simp only [htq] at heq
              have HTQ : Hid (∀ j, j < q + 1 → x.1.has j = true → idL (x.1.ids j) = idL x.1.id → 0 < (if tq = true then cnt + 1 else cnt)) := Lib.hid (fun i hi h1 h2 => by
                by_cases e : i = q
                · rw [e, HY.out] at h2
                  rw [← htq, decide_eq_true h2, if_pos rfl]; omega
                · have := hC.out i (by omega) h1 h2
                  split <;> omega)
              generalize bv (idL (lq.getD j noFile).id) = iy at *
              generalize bv (idL x.1.id) = ix at *
              have HEQ := Lib.hid heq
              have HO2 := Lib.hid hol2
              clear htq heq hol2
              clear hF hE hid hld e2
              go_upto_region 18 with fail
              go_quiet (fail)
              clear z1 z2 z3
              have HB11 : Hid (Below w8.heap.size w8 (w10.drewN nq)) := Lib.hid (B9.out.trans ((drewn _ _ _).mono hs8))
              have HH11 : Hid ((w10.drewN nq).heap = w10.heap) := Lib.hid rfl
              generalize w10.drewN nq = w11 at *
              have z3 := fun n => HLD.out (w11.drewN n) (by show w11.heap[g2]? = _; rw [HH11.out])
              have z4 := fun n => HZ4.out (w11.drewN n) HH11.out
              have heq := HEQ.out
              have hol2 := HO2.out
              clear hng
              go_upto_region 20 with fail
              go_quiet (fail)
              clear z3 z4 heq
              have HB12 : Hid (Below w8.heap.size w8 (w11.drewN nq)) := Lib.hid (HB11.out.trans ((drewn _ _ _).mono HB11.out.size))
              generalize w11.drewN nq = w12 at *
              cases tq
              · go_wp2_with fail
                exact ⟨⟨q + 1, cnt, by omega, by go_num, rfl, by omega, Lib.hid (by have h := HTQ.out; rw [if_neg (by decide)] at h; exact h), HB12⟩, by simp [intOf]; omega⟩
              · go_wp2_with fail
                exact ⟨⟨q + 1, cnt + 1, by omega, by go_num, by go_num, by omega, Lib.hid (by have h := HTQ.out; rw [if_pos rfl] at h; exact h), HB12⟩, by simp [intOf]; omega⟩
          · obtain rfl : q = 3 := by omega
            have HN9 := Lib.hid (N8.out.kept (w' := wr) (hB.out.block mb hmb8))
            rw [← HTK.out] at HN9
            have hIr := HI8.out.kept (w' := wr) (hB.out.block fb hfb8)
            have HBr : Hid (Below w5.heap.size w5 wr) := Lib.hid (HB8.out.trans (hB.out.mono HB8.out.size))
            have y0 : wr.cell? ⟨fb, 0, none⟩ = some (.string ⟨p.toArray⟩) := by
              rw [hIr.cell (k := 0) (by unfold n135; omega)]
              show some (Value.string ⟨x.1.path.toArray⟩) = _
              rw [HPX.out]
            have y1 : wr.cell? ⟨fb, 1, none⟩ = some (.int .i64 x.1.kind) := hIr.cell (k := 1) (by unfold n135; omega)
            have y2 : (loadCellsFrom ⟨fb, 39 + n32, none⟩ 0 n32 #[]).run Tryd.prog wr = .ok (bv (idL (x.1.ids 1))).toArray wr := by have h := outc_ids hIr (i := 1) (by omega); rw [Nat.one_mul] at h; exact h
            have y3 := outc_ids hIr (i := 2) (by omega)
            have y4 : wr.cell? ⟨fb, 37, none⟩ = some (.bool (x.1.has 1)) := outc_has hIr (i := 1) (by omega)
            have y5 : wr.cell? ⟨fb, 38, none⟩ = some (.bool (x.1.has 2)) := outc_has hIr (i := 2) (by omega)
            have hkey : keyOf Tryd.prog 9 (.string ⟨p.toArray⟩) = some (.string p) := by
              have := Go.WideMaps.keyOf_string_mk Tryd.underlying9 (s := ⟨p.toArray⟩) (by unfold maxLen; simp [ByteArray.size]; have := HPL.out; omega)
              simpa using this
            have HAT : Hid ((D'.put (.string p) (.lit (.int .i64 1))).atKey (.string p) (.lit (.int .i64 0)) = .lit (.int .i64 1)) := Lib.hid (by rw [HN9.out.at_ p, HTK.out, if_pos (by simp)])
            have heq := fun W => id_eql W (idL_len (x.1.ids 1)) (idL_len (x.1.ids 2))
            have hol1 : (bv (idL (x.1.ids 1))).length = n32 := by rw [bv_len, idL_len]; rfl
            have hol2 : (bv (idL (x.1.ids 2))).length = n32 := by rw [bv_len, idL_len]; rfl
            have HK1 : Hid (x.1.kind = 1 → 0 < cnt) := Lib.hid (fun h => by
              obtain ⟨j, hj, h1, h2⟩ := HX.out.2.1 h
              exact hC.out j hj h1 h2)
            obtain ⟨tq, htq⟩ : ∃ t, decide (idL (x.1.ids 1) = idL (x.1.ids 2)) = t := ⟨_, rfl⟩
            have HK3 : Hid (x.1.kind = 3 → tq = true → (x.1.has 1 == x.1.has 2) = false) := Lib.hid (fun h h2 => by
              have h3 := HX.out.2.2 h
              unfold alikeB at h3
              rw [htq, h2, Bool.and_true] at h3
              exact h3)
            simp only [htq] at heq
            clear htq hIr hB hC N8
            generalize bv (idL (x.1.ids 1)) = i1 at *
            generalize bv (idL (x.1.ids 2)) = i2 at *
            generalize x.1.has 1 = b1 at *
            generalize x.1.has 2 = b2 at *
            generalize x.1.kind = kd at *
            by_cases k1 : kd = 1
            · subst k1
              have hc0 := HK1.out rfl
              obtain ⟨c1, hc1⟩ : ∃ c1, cnt = c1 + 1 := ⟨cnt - 1, by omega⟩
              have g0 : ((cnt : Int) == 0) = false := by rw [beq_eq_false_iff_ne]; omega
              go_wp2_with (at_lookup; refine wpList_lookup_intW _ (by kernel_rfl) _ _ 57 rfl 9 3 .i64 keyLaw Tryd.underlying57 Tryd.underlying3 (zeroInt _) mb _ _ rfl HN9.out.own _ _ rfl hkey ?_; intro cv hat hwc; obtain rfl := cv_of hat HAT.out; clear hat hwc)
              exact ⟨⟨k + 1, _, _, by omega, by go_num, HN9, HBr⟩, by simp [intOf]; omega⟩
            · have g0 : (kd == 1) = false := by rw [beq_eq_false_iff_ne]; exact k1
              by_cases k3 : kd = 3
              · subst k3
                cases tq
                · go_wp2_with (at_lookup; refine wpList_lookup_intW _ (by kernel_rfl) _ _ 57 rfl 9 3 .i64 keyLaw Tryd.underlying57 Tryd.underlying3 (zeroInt _) mb _ _ rfl HN9.out.own _ _ rfl hkey ?_; intro cv hat hwc; obtain rfl := cv_of hat HAT.out; clear hat hwc)
                  exact ⟨⟨k + 1, _, _, by omega, by go_num, HN9, HBr⟩, by simp [intOf]; omega⟩
                · have hb := HK3.out rfl rfl
                  go_wp2_with (at_lookup; refine wpList_lookup_intW _ (by kernel_rfl) _ _ 57 rfl 9 3 .i64 keyLaw Tryd.underlying57 Tryd.underlying3 (zeroInt _) mb _ _ rfl HN9.out.own _ _ rfl hkey ?_; intro cv hat hwc; obtain rfl := cv_of hat HAT.out; clear hat hwc)
                  exact ⟨⟨k + 1, _, _, by omega, by go_num, HN9, HBr⟩, by simp [intOf]; omega⟩
              · have g3 : (kd == 3) = false := by rw [beq_eq_false_iff_ne]; exact k3
                go_wp2_with (at_lookup; refine wpList_lookup_intW _ (by kernel_rfl) _ _ 57 rfl 9 3 .i64 keyLaw Tryd.underlying57 Tryd.underlying3 (zeroInt _) mb _ _ rfl HN9.out.own _ _ rfl hkey ?_; intro cv hat hwc; obtain rfl := cv_of hat HAT.out; clear hat hwc)
                exact ⟨⟨k + 1, _, _, by omega, by go_num, HN9, HBr⟩, by simp [intOf]; omega⟩
      · obtain rfl : k = ms.length := by omega
        have hN2 := hN.out
        rw [show (pathsO ms).take ms.length = pathsO ms from by rw [← HLP.out, List.take_length]] at hN2
        have HN2 := Lib.hid hN2
        have HB9 : Hid (Below w1.heap.size w1 wr) := Lib.hid (HB15.out wr hB.out)
        have HBW9 : Hid (Below w.heap.size w wr) := Lib.hid (HBW1.out wr HB9.out)
        have hmb9 := hN2.own.lt
        obtain ⟨b0, b1, b2⟩ := HCE.out wr HB9.out
        clear hN hN2 hB HKP HO5 HND
        obtain ⟨w9, hw9⟩ : ∃ W, wr = W := ⟨_, rfl⟩
        rw [hw9] at HN2 HB9 HBW9 hmb9 b0 b1 b2 ⊢
        clear hw9
        have hs9 := HB9.out.size
        have hsw9 := HBW9.out.size
        go_wp2_with fail
        clear b0 b1 b2
        go_loopw [141] (fun i wr => ∃ q : Nat, q ≤ 3 ∧ i = .int .i64 (q : Int) ∧ Hid (Below w9.heap.size w9 wr)) (fun i _ => 3 - (intOf i).toNat)
        case atStart => exact ⟨0, by omega, rfl, Lib.hid (Below.refl _ _)⟩
        case round =>
          obtain ⟨q, hq, rfl, hB⟩ := hrel
          by_cases hq3 : q < 3
          · have hix := fun W => (show (Instr.index 26 (.agg #[.slice (a 0) (l 0).length (c 0), .slice (a 1) (l 1).length (c 1), .slice (a 2) (l 2).length (c 2)]) (.int .i64 (q : Int))).run Tryd.prog W = .ok (.slice (a q) (l q).length (c q)) W from index_left (fun i => .slice (a i) (l i).length (c i)) hq3 W)
            have HRQ := Lib.hid (fun (W : World) (hW : Below w.heap.size w W) => HR.out W hW q hq3)
            have HPQ := Lib.hid (HP.out q hq3)
            have HCQ := Lib.hid (HCV.out q hq3)
            have HLQ := Lib.hid (show (l q).length ≤ 90 from by
              have h := HSM.out.2
              unfold totN at h
              have h3 : q = 0 ∨ q = 1 ∨ q = 2 := by omega
              rcases h3 with rfl | rfl | rfl <;> omega)
            have hd3 : decide ((q : Int) < 3) = true := decide_eq_true (by omega)
            go_upto_region 29 with fail
            clear hix
            obtain ⟨lq, hlq⟩ : ∃ x, l q = x := ⟨_, rfl⟩
            rw [hlq] at HRQ HPQ HCQ HLQ ⊢
            obtain ⟨aq, haq⟩ : ∃ x, a q = x := ⟨_, rfl⟩
            obtain ⟨cq, hcq⟩ : ∃ x, c q = x := ⟨_, rfl⟩
            rw [haq, hcq] at HRQ ⊢
            clear hlq haq hcq
            go_wp2_with fail
            go_loopw [146] (fun i wr => ∃ k : Nat, k ≤ lq.length ∧ i = .int .i64 (k : Int) ∧ Hid (Below w9.heap.size w9 wr)) (fun i _ => lq.length - (intOf i).toNat)
            case atStart => exact ⟨0, Nat.zero_le _, rfl, hB⟩
            case round =>
              clear hB
              obtain ⟨k, hk, rfl, hB⟩ := hrel
              by_cases hlt : k < lq.length
              · have HBWr : Hid (Below w.heap.size w wr) := Lib.hid (HBW9.out.trans (hB.out.mono hsw9))
                obtain ⟨g1, o1, rfl, hg1, _, _, hat1⟩ := FilesC.at (HRQ.out wr HBWr.out) (by omega)
                have hck := hat1 k hlt
                have hxm : lq.getD k noFile ∈ lq := by simp [List.getD, hlt]
                have HXP := Lib.hid (HPQ.out _ hxm).1
                have HXC := Lib.hid (HCQ.out _ hxm)
                clear hat1 hxm
                obtain ⟨x, hx⟩ : ∃ x, lq.getD k noFile = x := ⟨_, rfl⟩
                rw [hx] at hck HXP HXC
                clear hx
                have h1 := file_one x n34
                have c1 := load_row wr g1 (o1 + k * n34) n34 (fileF x) (fun j hj => hck j (by unfold n34 at hj; exact hj))
                have i1 := RF.new wr 44 n34 (fileF noFile)
                have c2 := i1.write h1
                have HI := Lib.hid (i1.put (fileF x))
                have HW := Lib.hid (below_setRow ((Below.refl wr.heap.size wr).alloc (Nat.le_refl _) (.cells (rowL n34 (fileF noFile)).toArray 44)) (Nat.le_refl _) (rowL n34 (fileF x)).toArray)
                have hol := rowL_len n34 (fileF x)
                have hol2 := rowL_len n34 (fileF noFile)
                clear hck i1 h1
                go_upto_region 32 with fail
                clear c1 c2 hol hol2
                generalize (wr.alloc (.cells (rowL n34 (fileF noFile)).toArray 44)).setRow wr.heap.size (rowL n34 (fileF x)).toArray = w10 at *
                have HB10 : Hid (Below w9.heap.size w9 w10) := Lib.hid (hB.out.trans (HW.out.mono hB.out.size))
                have HN10 := Lib.hid (HN2.out.kept (w' := w10) (HB10.out.block mb hmb9))
                have d0 : w10.cell? ⟨wr.heap.size, 0, none⟩ = some (.string ⟨x.path.toArray⟩) := HI.out.cell (k := 0) (by unfold n34; omega)
                obtain ⟨fb, hfb⟩ : ∃ n, wr.heap.size = n := ⟨_, rfl⟩
                have hfl : wr.heap.size < w10.heap.size := HI.out.lt
                rw [hfb] at d0 hfl ⊢
                obtain ⟨p, hpx⟩ : ∃ p, x.path = p := ⟨_, rfl⟩
                rw [hpx] at d0 HXP HXC
                have hpl := HXP.out
                have hkey : keyOf Tryd.prog 9 (.string ⟨p.toArray⟩) = some (.string p) := by
                  have := Go.WideMaps.keyOf_string_mk Tryd.underlying9 (s := ⟨p.toArray⟩) (by unfold maxLen; simp [ByteArray.size]; omega)
                  simpa using this
                clear HI HW hB hpx hfb
                by_cases hin : p ∈ pathsO ms
                · have HAT : Hid (D'.atKey (.string p) (.lit (.int .i64 0)) = .lit (.int .i64 1)) := Lib.hid (by rw [HN10.out.at_ p, if_pos hin])
                  clear hin
                  go_wp2_with (at_lookup; refine wpList_lookup_own_int _ rfl _ _ 57 rfl 9 3 .i64 keyLaw Tryd.underlying57 Tryd.underlying3 (zeroInt _) mb _ _ rfl HN10.out.own _ _ rfl hkey ?_; intro cv hat hwc; obtain rfl := cv_of hat HAT.out; clear hat hwc)
                  exact ⟨⟨k + 1, by omega, by go_num, HB10⟩, by simp [intOf]; omega⟩
                · have HAT : Hid (D'.atKey (.string p) (.lit (.int .i64 0)) = .lit (.int .i64 0)) := Lib.hid (by rw [HN10.out.at_ p, if_neg hin])
                  have HCH : Hid (changedB (fun j => hasE (l j) p) (fun j => idL (idE (l j) p)) = false) := Lib.hid (HXC.out.resolve_left hin)
                  clear hin
                  go_wp2_with (at_lookup; refine wpList_lookup_own_int _ rfl _ _ 57 rfl 9 3 .i64 keyLaw Tryd.underlying57 Tryd.underlying3 (zeroInt _) mb _ _ rfl HN10.out.own _ _ rfl hkey ?_; intro cv hat hwc; obtain rfl := cv_of hat HAT.out; clear hat hwc)
                  have hs10 := HB10.out.size
                  have HBW10 : Hid (Below w.heap.size w w10) := Lib.hid (HBW9.out.trans (HB10.out.mono hsw9))
                  have i1 : RF (w10.alloc (.cells #[.bool false, .bool false, .bool false] 39)) w10.heap.size 39 3 (hasF l p 0) := ⟨by rw [zero_has]; exact new_five _ _ _⟩
                  have i2 : RF ((w10.alloc (.cells #[.bool false, .bool false, .bool false] 39)).alloc (.cells Tryd.zeroCells40 40)) (w10.alloc (.cells #[.bool false, .bool false, .bool false] 39)).heap.size 40 n96 (idsF l p 0) := by
                    rw [zero_ids l p]; exact RF.new _ _ _ _
                  have hw10 : (w10.alloc (.cells #[.bool false, .bool false, .bool false] 39)).heap.size = w10.heap.size + 1 := by simp
                  rw [hw10] at i2
                  have HI1 := Lib.hid (i1.kept (w' := (w10.alloc (.cells #[.bool false, .bool false, .bool false] 39)).alloc (.cells Tryd.zeroCells40 40)) (Below.heap_alloc _ _ _ (by rw [hw10]; omega)))
                  have HI2 := Lib.hid i2
                  have HB11 := Lib.hid (((Below.refl w10.heap.size w10).alloc (Nat.le_refl _) (.cells #[.bool false, .bool false, .bool false] 39)).alloc (by rw [hw10]; omega) (.cells Tryd.zeroCells40 40))
                  clear i1 i2 hw10
                  generalize (w10.alloc (.cells #[.bool false, .bool false, .bool false] 39)).alloc (.cells Tryd.zeroCells40 40) = w11 at *
                  go_loopw [155] (fun i wr => ∃ j : Nat, j ≤ 3 ∧ i = .int .i64 (j : Int) ∧ Hid (RF wr w10.heap.size 39 3 (hasF l p j)) ∧ Hid (RF wr (w10.heap.size + 1) 40 n96 (idsF l p j)) ∧ Hid (Below w10.heap.size w10 wr)) (fun i _ => 3 - (intOf i).toNat)
                  case atStart => exact ⟨0, by omega, rfl, HI1, HI2, HB11⟩
                  case round =>
                    obtain ⟨j, hj, rfl, hH, hI, hB⟩ := hrel
                    by_cases hj3 : j < 3
                    · have hixj := Lib.hid hj3
                      have HCJ := Lib.hid (fun (W : World) (hW : Below w1.heap.size w1 W) => (show W.cell? ⟨w.heap.size, j, none⟩ = some (.slice (a j) (l j).length (c j)) from by
                        obtain ⟨b0, b1, b2⟩ := HCE.out W hW
                        have h3 : j = 0 ∨ j = 1 ∨ j = 2 := by omega
                        rcases h3 with rfl | rfl | rfl
                        · exact b0
                        · exact b1
                        · exact b2))
                      have HRJ := Lib.hid (fun (W : World) (hW : Below w.heap.size w W) => HR.out W hW j hj3)
                      have HLJ := Lib.hid (show (l j).length ≤ 90 from by
                        have h := HSM.out.2
                        unfold totN at h
                        have h3 : j = 0 ∨ j = 1 ∨ j = 2 := by omega
                        rcases h3 with rfl | rfl | rfl <;> omega)
                      have HBWr : Hid (Below w.heap.size w wr) := Lib.hid (HBW10.out.trans (hB.out.mono HBW10.out.size))
                      have HB1r : Hid (Below w1.heap.size w1 wr) := Lib.hid (HB9.out.trans ((HB10.out.trans (hB.out.mono hs10)).mono hs9))
                      have HSZ10 : Hid (w.heap.size < w10.heap.size) := Lib.hid (Nat.lt_of_lt_of_le HSZ.out (Nat.le_trans hs9 hs10))
                      have HD0 := Lib.hid d0
                      obtain ⟨lj, hlj⟩ : ∃ x, l j = x := ⟨_, rfl⟩
                      obtain ⟨aj, haj⟩ : ∃ x, a j = x := ⟨_, rfl⟩
                      obtain ⟨cj, hcj⟩ : ∃ x, c j = x := ⟨_, rfl⟩
                      rw [hlj, haj, hcj] at HCJ HRJ
                      rw [hlj] at HLJ
                      have HLJE : Hid (l j = lj) := Lib.hid hlj
                      clear hlj haj hcj
                      have HS38 := Lib.hid (fun (W : World) (hW : Below wr.heap.size wr W) => (show W.cell? ⟨fb, 0, none⟩ = some (.string ⟨p.toArray⟩) ∧ W.cell? ⟨w.heap.size, j, none⟩ = some (.slice aj lj.length cj) from
                        ⟨by rw [World.cell?_of_block (w := w10) ((hB.out.trans (hW.mono hB.out.size)).block fb hfl)]; exact HD0.out, HCJ.out W (HB1r.out.trans (hW.mono HB1r.out.size))⟩))
                      have hb1 : (0 : Int) ≤ (j : Int) := by omega
                      have hb2 : (j : Int) < 3 := by omega
                      have hlt3 : decide ((j : Int) < 3) = true := decide_eq_true hb2
                      clear d0
                      go_upto_region 38 with fail
                      have BD : Hid (Below wr.heap.size wr wr.drew) := Lib.hid (drewn _ wr 1)
                      refine wp_region_held_drew (S := (fun W => W.cell? ⟨fb, 0, none⟩ = some (.string ⟨p.toArray⟩) ∧ W.cell? ⟨w.heap.size, j, none⟩ = some (.slice aj lj.length cj))) (by kernel_rfl) (by exact HS38.out _ (Hid.out (by assumption))) (fun hHeld => ?_)
                      clear HB1r HCJ
                      generalize wr.drew = wz at *
                      refine wpAnyH_take (i := 0) (oi := ⟨_, _, _, _, _, _⟩) (v := ?_) rfl (by kernel_rfl) (by kernel_rfl) (by kernel_rfl) (fun _ _ _ h => h) (Or.inl ⟨by rfl, ?_⟩) (by assumption) ?_
                      rotate_left
                      · intro w hSw; (try dsimp only at hSw); first | (go_simp; done) | (go_simp; with_reducible rfl)
                      try simp only [Act.put, List.setIfInBounds_toArray, List.set_cons_zero, List.set_cons_succ]
                      refine wpAnyH_take (i := 1) (oi := ⟨_, _, _, _, _, _⟩) (v := ?_) rfl (by kernel_rfl) (by kernel_rfl) (by kernel_rfl) (fun _ _ _ h => h) (Or.inl ⟨by rfl, ?_⟩) (by assumption) ?_
                      rotate_left
                      · intro w hSw; (try dsimp only at hSw); first | (go_simp; done) | (go_simp; with_reducible rfl)
                      try simp only [Act.put, List.setIfInBounds_toArray, List.set_cons_zero, List.set_cons_succ]
                      refine wpAnyH_take (i := 2) (oi := ⟨_, _, _, _, _, _⟩) (v := ?_) rfl (by kernel_rfl) (by kernel_rfl) (by kernel_rfl) (fun _ _ _ h => h) (Or.inl ⟨by rfl, ?_⟩) (by assumption) ?_
                      rotate_left
                      · intro w hSw; (try dsimp only at hSw); first | (go_simp; done) | (go_simp; with_reducible rfl)
                      try simp only [Act.put, List.setIfInBounds_toArray, List.set_cons_zero, List.set_cons_succ]
                      refine wpAnyH_take (i := 4) (oi := ⟨_, _, _, _, _, _⟩) (v := ?_) rfl (by kernel_rfl) (by kernel_rfl) (by kernel_rfl) (fun _ _ _ h => h) (Or.inl ⟨by rfl, ?_⟩) (by assumption) ?_
                      rotate_left
                      · intro w hSw; (try dsimp only at hSw); first | (go_simp; done) | (go_simp; with_reducible rfl)
                      try simp only [Act.put, List.setIfInBounds_toArray, List.set_cons_zero, List.set_cons_succ]
                      refine wpAnyH_take (i := 5) (oi := ⟨_, _, _, _, _, _⟩) (v := ?_) rfl (by kernel_rfl) (by kernel_rfl) (by kernel_rfl) (fun _ _ _ h => h) (Or.inl ⟨by rfl, ?_⟩) (by assumption) ?_
                      rotate_left
                      · intro w hSw; (try dsimp only at hSw); first | (go_simp; done) | (go_simp; with_reducible rfl)
                      try simp only [Act.put, List.setIfInBounds_toArray, List.set_cons_zero, List.set_cons_succ]
                      refine wpAnyH_ready (rs := [3]) (by kernel_rfl) (by simp) ?_
                      refine AllReadyH.cons (o := ⟨_, _, _, _, _, _⟩) rfl (fun K hK => ?_) AllReadyH.nil
                      go_simp
                      refine (plain_any (fun k => k < w.heap.size) (.slice aj lj.length cj) lj wz (fun _ h => Nat.lt_of_lt_of_le h (HBWr.out.trans (BD.out.mono HBWr.out.size)).size) (HRJ.out wz (HBWr.out.trans (BD.out.mono HBWr.out.size))) (by have := HLJ.out; omega)).mono ?_
                      rintro e wx ⟨v9, rfl, hl9, hb9⟩
                      have BX : Hid (Below wr.heap.size wr wx) := Lib.hid (BD.out.trans (hb9.mono BD.out.size))
                      have HLX : Hid (FilesC (fun q => q < wx.heap.size) wx v9 lj) := Lib.hid (RowsC.kept file_keeps hl9 (fun q hq => ⟨hq.2, rfl⟩))
                      obtain ⟨la9, lc9, rfl⟩ := RowsC.shape hl9
                      clear hl9 hb9 BD
                      try go_wp2_with fail
                      refine hK.out _ _ (by exact HS38.out _ (Hid.out (by assumption))) (fun hHeld => ?_)
                      clear hK K
                      try simp only [Act.put, List.setIfInBounds_toArray, List.set_cons_zero, List.set_cons_succ]
                      refine wpAnyH_ready (rs := [6]) (by kernel_rfl) (by simp) ?_
                      refine AllReadyH.cons (o := ⟨_, _, _, _, _, _⟩) rfl (fun K hK => ?_) AllReadyH.nil
                      go_simp
                      refine (find_any (fun q => q < wx.heap.size) (.slice la9 lj.length lc9) lj p wx HLX.out (by have := HLJ.out; omega)).mono ?_
                      rintro e wy ⟨rfl, rfl⟩
                      clear HLX
                      try go_wp2_with fail
                      refine hK.out _ _ (by exact HS38.out _ (Hid.out (by assumption))) (fun hHeld => ?_)
                      clear hK K
                      try simp only [Act.put, List.setIfInBounds_toArray, List.set_cons_zero, List.set_cons_succ]
                      refine wpAnyH_take (i := 7) (oi := ⟨_, _, _, _, _, _⟩) (v := ?_) rfl (by kernel_rfl) (by kernel_rfl) (by kernel_rfl) (fun _ _ _ h => h) (Or.inl ⟨by rfl, ?_⟩) (by assumption) ?_
                      rotate_left
                      · intro w hSw; (try dsimp only at hSw); first | (go_simp; done) | (go_simp; with_reducible rfl)
                      try simp only [Act.put, List.setIfInBounds_toArray, List.set_cons_zero, List.set_cons_succ]
                      refine wpAnyH_done (by kernel_rfl) ?_ _
                      have hsx := BX.out.size
                      have HBX : Hid (Below w10.heap.size w10 wy) := Lib.hid (hB.out.trans (BX.out.mono hB.out.size))
                      have HH := Lib.hid (hH.out.kept (w' := wy) (BX.out.block _ hH.out.lt))
                      have HI := Lib.hid (hI.out.kept (w' := wy) (BX.out.block _ hI.out.lt))
                      have HRX := Lib.hid (HRJ.out wy (HBWr.out.trans (BX.out.mono HBWr.out.size)))
                      have HS1 := Lib.hid (fun (W : World) (hW : W.heap[w.heap.size]? = wy.heap[w.heap.size]?) => (show W.cell? ⟨w.heap.size, j, none⟩ = some (.slice aj lj.length cj) from by
                        rw [World.cell?_of_block (w := wy) hW]
                        exact (HS38.out _ BX.out).2))
                      rcases findN_range (p := p) lj 0 with hF | ⟨jj, hjj, hF⟩
                      · have hhs : Hid (hasE (l j) p = false) := Lib.hid (by rw [HLJE.out]; unfold hasE; rw [hF]; decide)
                        rw [hF]
                        clear hF HS1 HRX hH hI
                        go_wp2_with fail
                        exact ⟨⟨j + 1, by omega, by go_num, Lib.hid (HH.out.congr (fun k _ => hasF_no hhs.out k)), Lib.hid (HI.out.congr (fun k _ => idsF_no hhs.out k)), HBX⟩, by simp [intOf]; omega⟩
                      · rw [Nat.zero_add] at hF
                        have hE : hasE lj p = true := by unfold hasE; rw [hF]; exact decide_eq_true (by omega)
                        have hhs : Hid (hasE (l j) p = true) := Lib.hid (by rw [HLJE.out]; exact hE)
                        have hid : idL (idE (l j) p) = idL (lj.getD jj noFile).id := by
                          rw [HLJE.out]; unfold idE fileE; rw [if_pos hE, hF]; rfl
                        obtain ⟨g2, o2, e2, hg2, hld⟩ := file_idc HRX.out hjj
                        rw [hF]
                        rw [e2] at HS1 ⊢
                        rw [← hid] at hld
                        clear hF hE hid e2 hH hI HRX
                        have hjl : (jj : Int) < (lj.length : Int) := by omega
                        have hj0 : decide ((jj : Int) ≥ 0) = true := decide_eq_true (by omega)
                        have hb1 : (0 : Int) ≤ (j : Int) := by omega
                        have hb2 : (j : Int) < 3 := by omega
                        have e1 : wy.cell? ⟨w10.heap.size, j, none⟩ = _ := HH.out.cell hj3
                        have f1 : wy.frozen? ⟨w10.heap.size, j, none⟩ = false := HH.out.free j
                        have y1 := HI.out.kept (w' := (wy.setCell ⟨w10.heap.size, j, none⟩ (.bool true)).drew) (Below.heap_setCell wy _ _ _ (by show w10.heap.size + 1 ≠ w10.heap.size; omega))
                        obtain ⟨w5x, s2, y2, O3, O4, O5⟩ := y1.store (o := j * n32) (m := n32) (G := idF (idE (l j) p)) (by have e32 : n32 = 32 := rfl; rw [e32]; unfold n96; omega) (id_one _ _)
                        rw [idL_row] at s2
                        have HH2 := HH.out.set (k := j) hj3 (.bool true)
                        have HH3 : Hid (RF w5x w10.heap.size 39 3 (fun i => if i = j then .bool true else hasF l p j i)) := Lib.hid (HH2.kept (O4 w10.heap.size (by omega)))
                        have hf1 : ∀ (q : Nat), q ≠ w10.heap.size → ((wy.setCell ⟨w10.heap.size, j, none⟩ (.bool true)).drew).heap[q]? = wy.heap[q]? := fun q hq => Below.heap_setCell wy _ _ _ (by show q ≠ w10.heap.size; exact hq)
                        have hwl : w.heap.size ≠ w10.heap.size := by have := HSZ10.out; omega
                        have hgl : g2 ≠ w10.heap.size := by have := HSZ10.out; omega
                        have q1 := hld wy.drew rfl
                        have q1a := hld _ (hf1 g2 hgl)
                        have q2 := HS1.out wy.drew rfl
                        have q2a := HS1.out _ (hf1 w.heap.size hwl)
                        have HB5 : Hid (Below w10.heap.size w10 w5x) := Lib.hid (O3 _ _ ((HBX.out.setCell (Nat.le_refl _) _).drew) (by omega))
                        have HI5 : Hid (RF w5x (w10.heap.size + 1) 40 n96 (idsF l p (j + 1))) := Lib.hid (y2.congr (fun k _ => idsF_yes k))
                        have HH5 : Hid (RF w5x w10.heap.size 39 3 (hasF l p (j + 1))) := Lib.hid (HH3.out.congr (fun k _ => hasF_yes hhs.out k))
                        have hol : (bv (idL (idE (l j) p))).length = n32 := by rw [bv_len, idL_len]; rfl
                        generalize bv (idL (idE (l j) p)) = ix at *
                        clear y1 y2 O3 O4 O5 HH2 HH3 hf1 hwl hgl HS1 hld HH HI hhs HBX
                        go_upto_region 40 with fail
                        go_region
                        clear q1 q1a q2 q2a e1 f1 s2 hol
                        go_wp2_with fail
                        exact ⟨⟨j + 1, by omega, by go_num, HH5, HI5, HB5⟩, by simp [intOf]; omega⟩
                    · obtain rfl : j = 3 := by omega
                      have y1 : wr.cell? ⟨w10.heap.size, 0, none⟩ = some (.bool (hasE (l 0) p)) := hH.out.cell (k := 0) (by omega)
                      have y2 : wr.cell? ⟨w10.heap.size, 1, none⟩ = some (.bool (hasE (l 1) p)) := hH.out.cell (k := 1) (by omega)
                      have y3 : wr.cell? ⟨w10.heap.size, 2, none⟩ = some (.bool (hasE (l 2) p)) := hH.out.cell (k := 2) (by omega)
                      have z1 : (loadCellsFrom ⟨w10.heap.size + 1, 0, none⟩ 0 n32 #[]).run Tryd.prog wr = .ok (bv (idL (idE (l 0) p))).toArray wr := by have h := ids_load hI.out (i := 0) (by omega); rw [Nat.zero_mul] at h; exact h
                      have z2 : (loadCellsFrom ⟨w10.heap.size + 1, n32, none⟩ 0 n32 #[]).run Tryd.prog wr = .ok (bv (idL (idE (l 1) p))).toArray wr := by have h := ids_load hI.out (i := 1) (by omega); rw [Nat.one_mul] at h; exact h
                      have z3 := ids_load hI.out (i := 2) (by omega)
                      have HBE : Hid (Below w9.heap.size w9 wr) := Lib.hid (HB10.out.trans (hB.out.mono hs10))
                      have hn1 := fun W => id_neq W (idL_len (idE (l 0) p)) (idL_len (idE (l 1) p))
                      have hn2 := fun W => id_neq W (idL_len (idE (l 0) p)) (idL_len (idE (l 2) p))
                      have hol0 : (bv (idL (idE (l 0) p))).length = n32 := by rw [bv_len, idL_len]; rfl
                      have hol1 : (bv (idL (idE (l 1) p))).length = n32 := by rw [bv_len, idL_len]; rfl
                      have hol2 : (bv (idL (idE (l 2) p))).length = n32 := by rw [bv_len, idL_len]; rfl
                      have hch := HCH.out
                      unfold changedB at hch
                      simp only [] at hch
                      clear hH hI hB HI1 HI2 HB11 HCH HXC
                      generalize bv (idL (idE (l 0) p)) = x0 at *
                      generalize bv (idL (idE (l 1) p)) = x1 at *
                      generalize bv (idL (idE (l 2) p)) = x2 at *
                      generalize decide (idL (idE (l 0) p) ≠ idL (idE (l 1) p)) = t1 at *
                      generalize decide (idL (idE (l 0) p) ≠ idL (idE (l 2) p)) = t2 at *
                      generalize hasE (l 0) p = h0 at *
                      generalize hasE (l 1) p = h1 at *
                      generalize hasE (l 2) p = h2 at *
                      cases h1 <;> cases h2 <;> cases h0 <;> cases t1 <;> cases t2 <;> first | (exact absurd hch (by decide)) | (clear hch; go_wp2_with fail; exact ⟨⟨k + 1, by omega, by go_num, HBE⟩, by simp [intOf]; omega⟩)
              · obtain rfl : k = lq.length := by omega
                go_wp2_with fail
                exact ⟨⟨q + 1, by omega, by go_num, hB⟩, by simp [intOf]; omega⟩
          · obtain rfl : q = 3 := by omega
            go_wp2_with fail
            go_ret
            exact ⟨rfl, HBW9.out.trans (hB.out.mono hsw9)⟩
  · obtain rfl := HZ5.out h0
    have g0 : (c5 == 0) = false := by rw [beq_eq_false_iff_ne]; exact h0
    have g1 : (c5 != 0) = true := by rw [bne, g0]; rfl
    go_wp2_with fail
    go_ret
    exact ⟨rfl, HBW1.out _ B5.out⟩
end Go.Proofs.YtjlpdoppnhcjoaaDoor
