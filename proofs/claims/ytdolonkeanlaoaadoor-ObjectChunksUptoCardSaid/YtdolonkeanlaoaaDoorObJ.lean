/- The walks of object's readChunk, readBlob. -/
import Derived.Test.YtdolonkeanlaoaaDoorObHI
import Derived.Deep.RegionHeld3
import Derived.Test.YtdolonkeanlaoaaDoorStep
namespace Go.Proofs.YtdolonkeanlaoaaDoor
open Go.RowKit
attribute [local simp high] id_size id_zero

theorem any_stepC {K : Act → World → Prop} {a : Act} {w : World} (h : ∀ w1, w1 = w → K a w1) : K a w := h _ rfl
theorem GivesR.error {α : Type} {V : World → Value → α → Prop} {w w' : World} {r : Except Int α} {c : Int} {e : Ending} (hr : r = .error c) (h : GivesR V w (.error c) e w') : GivesR V w r e w' := by rw [hr]; exact h
/-- The values of a record, one by one. -/
theorem ListV.el {w w' : World} {n : Nat} {a : Option Addr} {m c : Nat} {l : List Val} {j : Nat} (h : ListV w w' (n + 1) (.slice a m c) l) (hm : l.length = m) (hj : j < m) :
    ∃ g o a1 c1 a2 c2, a = some ⟨g, o, none⟩ ∧ (w.heap.size ≤ g ∧ g < w'.heap.size) ∧ m ≤ c ∧ c ≤ maxLen ∧ (w'.cell? ⟨g, o + j * 5, none⟩ = some (.int .i64 (at0 l j).kind) ∧ w'.cell? ⟨g, o + j * 5 + 1, none⟩ = some (.int .u64 (at0 l j).num) ∧ w'.cell? ⟨g, o + j * 5 + 2, none⟩ = some (.slice a1 (at0 l j).bytes.length c1) ∧
      w'.cell? ⟨g, o + j * 5 + 3, none⟩ = some (.float .f64 (at0 l j).real) ∧ w'.cell? ⟨g, o + j * 5 + 4, none⟩ = some (.slice a2 (at0 l j).list.length c2)) ∧
      ReadsS (NewS w w') w' (n + 1) (.agg #[.int .i64 (at0 l j).kind, .int .u64 (at0 l j).num, .slice a1 (at0 l j).bytes.length c1, .float .f64 (at0 l j).real, .slice a2 (at0 l j).list.length c2]) (at0 l j) := by
  subst hm
  have hx : l[j]? = some (at0 l j) := by unfold at0; rw [List.getElem?_eq_getElem hj]; simp [List.getD, hj]
  exact ListS.el (S := NewS w w') h hx
theorem ReadsS.all {w0 w1 : World} {n : Nat} {v : Value} {x : Val} (h : ReadsS (NewS w0 w1) w1 n v x) (W : World) (hW : ∀ k, k < w1.heap.size → W.heap[k]? = w1.heap[k]?) : ReadsS (fun k => k < w1.heap.size) W n v x :=
  ReadsS.kept (fun _ hk => ⟨hk.2, hW _ hk.2⟩) n _ _ h
set_option maxRecDepth 100000 in
set_option maxHeartbeats 2000000 in
theorem rchunk_any (S : Nat → Prop) (v : Value) (l : List UInt8) (w : World) (hS : ∀ k, S k → k < w.heap.size) (hb : BytesC S w v l) :
    Calls Tryd.prog 21 #[v] w (GivesR (fun w' v b => BytesC (NewS w w') w' v b) w (chunkR l)) := by
  have HF := Lib.hid (fields_any S v l 1 1 w hS hb (by omega) (by omega))
  unfold chunkR
  obtain ⟨sa, sc, rfl⟩ := hb.shape
  clear hb hS
  cases hd : fieldsR l 1 1 with
  | error c =>
    rw [hd] at HF
    rw [andR_bad rfl]
    clear hd
    go_enter Tryd.func21, Tryd.ntmps21
    go_wp2_with fail
    refine HF.out.mono ?_
    rintro e w1 ⟨rfl, hb1⟩
    have HB := Lib.hid hb1
    clear hb1
    go_wp2
    exact ⟨rfl, rfl, HB.out⟩
  | ok vs =>
    rw [hd] at HF
    rw [andR_of rfl]
    obtain ⟨xx, hdx, hfx⟩ := andR_ok hd
    have hlen := (fieldsV_ok hfx).2.1
    have HLEN := Lib.hid hlen
    clear hd hdx hfx hlen
    obtain ⟨R, hR⟩ : ∃ R, textR 262144 (at0 vs 0) = R := ⟨_, rfl⟩
    have HR := Lib.hid hR
    rw [hR]
    clear hR
    go_enter Tryd.func21, Tryd.ntmps21
    go_wp2_with fail
    refine HF.out.mono ?_
    rintro e w1 ⟨vl, rfl, hL, hb1⟩
    obtain ⟨la, lc, rfl⟩ := ListS.shape hL
    rw [HLEN.out] at hL ⊢
    obtain ⟨g, o, a1, c1, a2, c2, rfl, hg, hlc, hcm, ⟨e0, e1, e2, e3, e4⟩, hx⟩ := hL.el HLEN.out (j := 0) (by omega)
    simp only [Nat.zero_mul, Nat.add_zero] at e0 e1 e2 e3 e4
    have HT := Lib.hid (rtext_any (NewS w w1) 14 262144 _ _ w1 (fun k hk => hk.2) hx)
    rw [HR.out] at HT
    have HB := Lib.hid hb1
    clear hL hb1 hx hcm
    go_wp2_with fail
    refine HT.out.mono ?_
    intro e w2 h2
    cases R with
    | error c =>
      obtain ⟨rfl, hb2⟩ := h2
      have HB2 := Lib.hid (HB.out.trans (hb2.mono HB.out.size))
      clear hb2
      go_wp2
      exact ⟨rfl, rfl, HB2.out⟩
    | ok b =>
      obtain ⟨vb, rfl, hv, hb2⟩ := h2
      have HB2 := Lib.hid (HB.out.trans (hb2.mono HB.out.size))
      have HV := Lib.hid (hv.kept (S' := NewS w w2) (w' := w2) (fun k hk => ⟨⟨hk.1, Nat.lt_of_lt_of_le hk.2 hb2.size⟩, rfl⟩))
      clear hb2 hv
      go_wp2
      go_ret
      exact ⟨_, rfl, HV.out, HB2.out⟩
set_option maxRecDepth 100000 in
set_option maxHeartbeats 4000000 in
theorem rblob_any (S : Nat → Prop) (v : Value) (l : List UInt8) (w : World) (hS : ∀ k, S k → k < w.heap.size) (hb : BytesC S w v l) :
    Calls Tryd.prog 49 #[v] w (GivesR (fun w' v x => ∃ vi, v = .agg #[vi, .int .i64 x.2] ∧ IdsV w w' vi x.1 ∧ x.2 ≤ 262144) w (blobR l)) := by
  have HF := Lib.hid (fields_any S v l 2 2 (w.alloc (.cells #[.slice none 0 0, .int .i64 0] 60)) (fun k hk => by have := hS k hk; simp; omega) (hb.alloc hS _) (by omega) (by omega))
  unfold blobR
  obtain ⟨sa, sc, rfl⟩ := hb.shape
  have HB0 := Lib.hid ((Below.refl w.heap.size w).alloc (Nat.le_refl _) (.cells #[.slice none 0 0, .int .i64 0] 60))
  have HN0 := Lib.hid (new_five w #[.slice none 0 0, .int .i64 0] 60)
  clear hb hS
  cases hd : fieldsR l 2 2 with
  | error c =>
    rw [hd] at HF
    rw [andR_bad rfl]
    clear hd
    go_enter Tryd.func49, Tryd.ntmps49
    go_wp2_with fail
    refine HF.out.mono ?_
    rintro e w1 ⟨rfl, hb1⟩
    have HB := Lib.hid hb1
    clear hb1
    go_wp2
    exact ⟨rfl, rfl, HB0.out.trans (HB.out.mono (by simp))⟩
  | ok vs =>
    rw [hd] at HF
    rw [andR_of rfl]
    obtain ⟨xx, hdx, hfx⟩ := andR_ok hd
    have hlen := (fieldsV_ok hfx).2.1
    have HLEN := Lib.hid hlen
    clear hd hdx hfx hlen
    go_enter Tryd.func49, Tryd.ntmps49
    go_wp2_with fail
    refine HF.out.mono ?_
    rintro e w1 ⟨vl, rfl, hL, hb1⟩
    obtain ⟨la, lc, rfl⟩ := ListS.shape hL
    rw [HLEN.out] at hL ⊢
    obtain ⟨g, o, a1, c1, a2, c2, rfl, hg, hlc, hcm, ⟨e0, e1, e2, e3, e4⟩, hx⟩ := hL.el HLEN.out (j := 0) (by omega)
    obtain ⟨g', o', a1', c1', a2', c2', heq, _, _, _, ⟨f0, f1, f2, f3, f4⟩, hx'⟩ := hL.el HLEN.out (j := 1) (by omega)
    injection heq with heq
    injection heq with heq1 heq2
    subst heq1 heq2
    simp only [Nat.zero_mul, Nat.add_zero, Nat.one_mul] at e0 e1 e2 e3 e4 f0 f1 f2 f3 f4
    have hg2 := hg.2
    have HK : Hid (∀ W : World, (∀ k, k ≠ w.heap.size → k < w1.heap.size → W.heap[k]? = w1.heap[k]?) → (W.cell? ⟨g, o, none⟩ = some (.int .i64 (at0 vs 0).kind) ∧ W.cell? ⟨g, o + 1, none⟩ = some (.int .u64 (at0 vs 0).num) ∧ W.cell? ⟨g, o + 2, none⟩ = some (.slice a1 (at0 vs 0).bytes.length c1) ∧
      W.cell? ⟨g, o + 3, none⟩ = some (.float .f64 (at0 vs 0).real) ∧ W.cell? ⟨g, o + 4, none⟩ = some (.slice a2 (at0 vs 0).list.length c2)) ∧ (W.cell? ⟨g, o + 5, none⟩ = some (.int .i64 (at0 vs 1).kind) ∧ W.cell? ⟨g, o + 5 + 1, none⟩ = some (.int .u64 (at0 vs 1).num) ∧ W.cell? ⟨g, o + 5 + 2, none⟩ = some (.slice a1' (at0 vs 1).bytes.length c1') ∧
      W.cell? ⟨g, o + 5 + 3, none⟩ = some (.float .f64 (at0 vs 1).real) ∧ W.cell? ⟨g, o + 5 + 4, none⟩ = some (.slice a2' (at0 vs 1).list.length c2'))) := Lib.hid (fun W hW => by
        have hq : ∀ j, W.cell? ⟨g, j, none⟩ = w1.cell? ⟨g, j, none⟩ := fun j => World.cell?_of_block (w := w1) (hW g (by have := hg.1; simp at this; omega) hg2)
        simp only [hq]
        exact ⟨⟨e0, e1, e2, e3, e4⟩, f0, f1, f2, f3, f4⟩)
    have HN1 := Lib.hid (rnames_any (fun k => k < w1.heap.size) 13 4096 _ _ w1.drew (fun k hk => hk) (hx.all _ (fun _ _ => rfl)))
    have HN2 : Hid (∀ W : World, Below w1.heap.size w1 W → Calls Tryd.prog 68 #[.agg #[.int .i64 (at0 vs 1).kind, .int .u64 (at0 vs 1).num, .slice a1' (at0 vs 1).bytes.length c1', .float .f64 (at0 vs 1).real, .slice a2' (at0 vs 1).list.length c2'], .int .u64 262144] W (GivesR (fun _ v (n : Nat) => v = .int .i64 n) W (numberR 262144 (at0 vs 1)))) :=
      Lib.hid (fun W hW => rnumber_any (fun k => k < w1.heap.size) 14 262144 _ _ W (by omega) (hx'.all _ hW.block))
    have HB := Lib.hid (HB0.out.trans (hb1.mono (by simp)))
    have HZ1 : Hid (w.heap.size + 1 ≤ w1.heap.size) := Lib.hid (by have := hb1.size; simpa using this)
    have HBK : Hid (w1.heap[w.heap.size]? = some (.cells #[.slice none 0 0, .int .i64 0] 60 (0, 0))) := Lib.hid ((hb1.block w.heap.size (by simp)).trans HN0.out)
    have HE : Hid (blobL vs = andR (namesR 4096 (at0 vs 0)) fun ids => andR (numberR 262144 (at0 vs 1)) fun n => .ok (ids, n)) := Lib.hid rfl
    have HNL := Lib.hid (fun n (h : numberR 262144 (at0 vs 1) = .ok n) => (numberR_ok h).2.2)
    clear e0 e1 e2 e3 e4 f0 f1 f2 f3 f4 hg hg2 hx hx' hb1 hL hcm
    generalize namesR 4096 (at0 vs 0) = rn at *
    generalize numberR 262144 (at0 vs 1) = rm at *
    go_wp2_with fail
    rename Exit → Act → World → Prop => QP
    subst QP
    cases rn with
    | error c =>
      refine wp_region_held_drew (S := (fun W => (W.cell? ⟨g, o, none⟩ = some (.int .i64 (at0 vs 0).kind) ∧ W.cell? ⟨g, o + 1, none⟩ = some (.int .u64 (at0 vs 0).num) ∧ W.cell? ⟨g, o + 2, none⟩ = some (.slice a1 (at0 vs 0).bytes.length c1) ∧ W.cell? ⟨g, o + 3, none⟩ = some (.float .f64 (at0 vs 0).real) ∧ W.cell? ⟨g, o + 4, none⟩ = some (.slice a2 (at0 vs 0).list.length c2)) ∧ (W.cell? ⟨g, o + 5, none⟩ = some (.int .i64 (at0 vs 1).kind) ∧ W.cell? ⟨g, o + 5 + 1, none⟩ = some (.int .u64 (at0 vs 1).num) ∧ W.cell? ⟨g, o + 5 + 2, none⟩ = some (.slice a1' (at0 vs 1).bytes.length c1') ∧ W.cell? ⟨g, o + 5 + 3, none⟩ = some (.float .f64 (at0 vs 1).real) ∧ W.cell? ⟨g, o + 5 + 4, none⟩ = some (.slice a2' (at0 vs 1).list.length c2')))) (by kernel_rfl) (by exact HK.out _ (fun _ _ _ => rfl)) (fun hHeld => ?_)
      refine wpAnyH_take (i := 0) (oi := ⟨_, _, _, _, _, _⟩) (v := ?_) rfl (by kernel_rfl) (by kernel_rfl) (by kernel_rfl) (fun _ _ _ h => h) (Or.inl ⟨by rfl, ?_⟩) (by assumption) ?_
      rotate_left
      · intro w hSw; (try dsimp only at hSw); first | (go_simp; done) | (go_simp; with_reducible rfl)
      try simp only [Act.put, List.setIfInBounds_toArray, List.set_cons_zero, List.set_cons_succ]
      refine wpAnyH_take (i := 1) (oi := ⟨_, _, _, _, _, _⟩) (v := ?_) rfl (by kernel_rfl) (by kernel_rfl) (by kernel_rfl) (fun _ _ _ h => h) (Or.inl ⟨by rfl, ?_⟩) (by assumption) ?_
      rotate_left
      · intro w hSw; (try dsimp only at hSw); first | (go_simp; done) | (go_simp; with_reducible rfl)
      try simp only [Act.put, List.setIfInBounds_toArray, List.set_cons_zero, List.set_cons_succ]
      refine wpAnyH_take (i := 2) (oi := ⟨_, _, _, _, _, _⟩) (v := ?_) rfl (by kernel_rfl) (by kernel_rfl) (by kernel_rfl) (fun _ _ _ h => h) (Or.inl ⟨by rfl, ?_⟩) (by assumption) ?_
      rotate_left
      · intro w hSw; (try dsimp only at hSw); first | (go_simp; done) | (go_simp; with_reducible rfl)
      try simp only [Act.put, List.setIfInBounds_toArray, List.set_cons_zero, List.set_cons_succ]
      refine wpAnyH_take (i := 4) (oi := ⟨_, _, _, _, _, _⟩) (v := ?_) rfl (by kernel_rfl) (by kernel_rfl) (by kernel_rfl) (fun _ _ _ h => h) (Or.inl ⟨by rfl, ?_⟩) (by assumption) ?_
      rotate_left
      · intro w hSw; (try dsimp only at hSw); first | (go_simp; done) | (go_simp; with_reducible rfl)
      try simp only [Act.put, List.setIfInBounds_toArray, List.set_cons_zero, List.set_cons_succ]
      refine wpAnyH_take (i := 5) (oi := ⟨_, _, _, _, _, _⟩) (v := ?_) rfl (by kernel_rfl) (by kernel_rfl) (by kernel_rfl) (fun _ _ _ h => h) (Or.inl ⟨by rfl, ?_⟩) (by assumption) ?_
      rotate_left
      · intro w hSw; (try dsimp only at hSw); first | (go_simp; done) | (go_simp; with_reducible rfl)
      try simp only [Act.put, List.setIfInBounds_toArray, List.set_cons_zero, List.set_cons_succ]
      refine wpAnyH_take (i := 6) (oi := ⟨_, _, _, _, _, _⟩) (v := ?_) rfl (by kernel_rfl) (by kernel_rfl) (by kernel_rfl) (fun _ _ _ h => h) (Or.inl ⟨by rfl, ?_⟩) (by assumption) ?_
      rotate_left
      · intro w hSw; (try dsimp only at hSw); first | (go_simp; done) | (go_simp; with_reducible rfl)
      try simp only [Act.put, List.setIfInBounds_toArray, List.set_cons_zero, List.set_cons_succ]
      refine wpAnyH_ready (rs := [3]) (by kernel_rfl) (by simp) ?_
      refine AllReadyH.cons (o := ⟨_, _, _, _, _, _⟩) rfl (fun K hK => ?_) AllReadyH.nil
      go_simp
      refine HN1.out.mono ?_
      rintro e w2 ⟨rfl, hb2⟩
      refine ⟨rfl, ?_⟩
      rw [HE.out]
      exact ⟨rfl, HB.out.trans (((drewn _ w1 1).trans hb2).mono HB.out.size)⟩
    | ok ids =>
      cases rm with
      | error c =>
        refine wp_region_held_drew (S := (fun W => (W.cell? ⟨g, o, none⟩ = some (.int .i64 (at0 vs 0).kind) ∧ W.cell? ⟨g, o + 1, none⟩ = some (.int .u64 (at0 vs 0).num) ∧ W.cell? ⟨g, o + 2, none⟩ = some (.slice a1 (at0 vs 0).bytes.length c1) ∧ W.cell? ⟨g, o + 3, none⟩ = some (.float .f64 (at0 vs 0).real) ∧ W.cell? ⟨g, o + 4, none⟩ = some (.slice a2 (at0 vs 0).list.length c2)) ∧ (W.cell? ⟨g, o + 5, none⟩ = some (.int .i64 (at0 vs 1).kind) ∧ W.cell? ⟨g, o + 5 + 1, none⟩ = some (.int .u64 (at0 vs 1).num) ∧ W.cell? ⟨g, o + 5 + 2, none⟩ = some (.slice a1' (at0 vs 1).bytes.length c1') ∧ W.cell? ⟨g, o + 5 + 3, none⟩ = some (.float .f64 (at0 vs 1).real) ∧ W.cell? ⟨g, o + 5 + 4, none⟩ = some (.slice a2' (at0 vs 1).list.length c2')))) (by kernel_rfl) (by exact HK.out _ (fun _ _ _ => rfl)) (fun hHeld => ?_)
        refine wpAnyH_take (i := 0) (oi := ⟨_, _, _, _, _, _⟩) (v := ?_) rfl (by kernel_rfl) (by kernel_rfl) (by kernel_rfl) (fun _ _ _ h => h) (Or.inl ⟨by rfl, ?_⟩) (by assumption) ?_
        rotate_left
        · intro w hSw; (try dsimp only at hSw); first | (go_simp; done) | (go_simp; with_reducible rfl)
        try simp only [Act.put, List.setIfInBounds_toArray, List.set_cons_zero, List.set_cons_succ]
        refine wpAnyH_take (i := 1) (oi := ⟨_, _, _, _, _, _⟩) (v := ?_) rfl (by kernel_rfl) (by kernel_rfl) (by kernel_rfl) (fun _ _ _ h => h) (Or.inl ⟨by rfl, ?_⟩) (by assumption) ?_
        rotate_left
        · intro w hSw; (try dsimp only at hSw); first | (go_simp; done) | (go_simp; with_reducible rfl)
        try simp only [Act.put, List.setIfInBounds_toArray, List.set_cons_zero, List.set_cons_succ]
        refine wpAnyH_take (i := 2) (oi := ⟨_, _, _, _, _, _⟩) (v := ?_) rfl (by kernel_rfl) (by kernel_rfl) (by kernel_rfl) (fun _ _ _ h => h) (Or.inl ⟨by rfl, ?_⟩) (by assumption) ?_
        rotate_left
        · intro w hSw; (try dsimp only at hSw); first | (go_simp; done) | (go_simp; with_reducible rfl)
        try simp only [Act.put, List.setIfInBounds_toArray, List.set_cons_zero, List.set_cons_succ]
        refine wpAnyH_take (i := 4) (oi := ⟨_, _, _, _, _, _⟩) (v := ?_) rfl (by kernel_rfl) (by kernel_rfl) (by kernel_rfl) (fun _ _ _ h => h) (Or.inl ⟨by rfl, ?_⟩) (by assumption) ?_
        rotate_left
        · intro w hSw; (try dsimp only at hSw); first | (go_simp; done) | (go_simp; with_reducible rfl)
        try simp only [Act.put, List.setIfInBounds_toArray, List.set_cons_zero, List.set_cons_succ]
        refine wpAnyH_take (i := 5) (oi := ⟨_, _, _, _, _, _⟩) (v := ?_) rfl (by kernel_rfl) (by kernel_rfl) (by kernel_rfl) (fun _ _ _ h => h) (Or.inl ⟨by rfl, ?_⟩) (by assumption) ?_
        rotate_left
        · intro w hSw; (try dsimp only at hSw); first | (go_simp; done) | (go_simp; with_reducible rfl)
        try simp only [Act.put, List.setIfInBounds_toArray, List.set_cons_zero, List.set_cons_succ]
        refine wpAnyH_take (i := 6) (oi := ⟨_, _, _, _, _, _⟩) (v := ?_) rfl (by kernel_rfl) (by kernel_rfl) (by kernel_rfl) (fun _ _ _ h => h) (Or.inl ⟨by rfl, ?_⟩) (by assumption) ?_
        rotate_left
        · intro w hSw; (try dsimp only at hSw); first | (go_simp; done) | (go_simp; with_reducible rfl)
        try simp only [Act.put, List.setIfInBounds_toArray, List.set_cons_zero, List.set_cons_succ]
        refine wpAnyH_ready (rs := [3]) (by kernel_rfl) (by simp) ?_
        refine AllReadyH.cons (o := ⟨_, _, _, _, _, _⟩) rfl (fun K hK => ?_) AllReadyH.nil
        go_simp
        refine HN1.out.mono ?_
        rintro e w2 ⟨vi, rfl, hI, hb2⟩
        obtain ⟨ia, ic, rfl⟩ := row_shape_any hI.1
        have HI := Lib.hid hI
        have HB2 : Hid (Below w1.heap.size w1 w2) := Lib.hid ((drewn _ w1 1).trans hb2)
        have HKP : Hid (∀ k, k ≠ w.heap.size → k < w1.heap.size → w2.heap[k]? = w1.heap[k]?) := Lib.hid (fun k _ hk => HB2.out.block k hk)
        clear hI hb2
        try go_wp2_with fail
        refine hK.out _ _ (by exact HK.out _ (Hid.out (by assumption))) (fun hHeld => ?_)
        clear hK K
        try simp only [Act.put, List.setIfInBounds_toArray, List.set_cons_zero, List.set_cons_succ]
        refine wpAnyH_ready (rs := [7]) (by kernel_rfl) (by simp) ?_
        refine AllReadyH.cons (o := ⟨_, _, _, _, _, _⟩) rfl (fun K hK => ?_) AllReadyH.nil
        go_simp
        refine (HN2.out w2 HB2.out).mono ?_
        rintro e w3 ⟨rfl, hb3⟩
        refine ⟨rfl, ?_⟩
        rw [HE.out]
        exact ⟨rfl, HB.out.trans ((HB2.out.trans (hb3.mono HB2.out.size)).mono HB.out.size)⟩
      | ok n =>
        refine wp_region_held_drew (S := (fun W => (W.cell? ⟨g, o, none⟩ = some (.int .i64 (at0 vs 0).kind) ∧ W.cell? ⟨g, o + 1, none⟩ = some (.int .u64 (at0 vs 0).num) ∧ W.cell? ⟨g, o + 2, none⟩ = some (.slice a1 (at0 vs 0).bytes.length c1) ∧ W.cell? ⟨g, o + 3, none⟩ = some (.float .f64 (at0 vs 0).real) ∧ W.cell? ⟨g, o + 4, none⟩ = some (.slice a2 (at0 vs 0).list.length c2)) ∧ (W.cell? ⟨g, o + 5, none⟩ = some (.int .i64 (at0 vs 1).kind) ∧ W.cell? ⟨g, o + 5 + 1, none⟩ = some (.int .u64 (at0 vs 1).num) ∧ W.cell? ⟨g, o + 5 + 2, none⟩ = some (.slice a1' (at0 vs 1).bytes.length c1') ∧ W.cell? ⟨g, o + 5 + 3, none⟩ = some (.float .f64 (at0 vs 1).real) ∧ W.cell? ⟨g, o + 5 + 4, none⟩ = some (.slice a2' (at0 vs 1).list.length c2')))) (by kernel_rfl) (by exact HK.out _ (fun _ _ _ => rfl)) (fun hHeld => ?_)
        refine wpAnyH_take (i := 0) (oi := ⟨_, _, _, _, _, _⟩) (v := ?_) rfl (by kernel_rfl) (by kernel_rfl) (by kernel_rfl) (fun _ _ _ h => h) (Or.inl ⟨by rfl, ?_⟩) (by assumption) ?_
        rotate_left
        · intro w hSw; (try dsimp only at hSw); first | (go_simp; done) | (go_simp; with_reducible rfl)
        try simp only [Act.put, List.setIfInBounds_toArray, List.set_cons_zero, List.set_cons_succ]
        refine wpAnyH_take (i := 1) (oi := ⟨_, _, _, _, _, _⟩) (v := ?_) rfl (by kernel_rfl) (by kernel_rfl) (by kernel_rfl) (fun _ _ _ h => h) (Or.inl ⟨by rfl, ?_⟩) (by assumption) ?_
        rotate_left
        · intro w hSw; (try dsimp only at hSw); first | (go_simp; done) | (go_simp; with_reducible rfl)
        try simp only [Act.put, List.setIfInBounds_toArray, List.set_cons_zero, List.set_cons_succ]
        refine wpAnyH_take (i := 2) (oi := ⟨_, _, _, _, _, _⟩) (v := ?_) rfl (by kernel_rfl) (by kernel_rfl) (by kernel_rfl) (fun _ _ _ h => h) (Or.inl ⟨by rfl, ?_⟩) (by assumption) ?_
        rotate_left
        · intro w hSw; (try dsimp only at hSw); first | (go_simp; done) | (go_simp; with_reducible rfl)
        try simp only [Act.put, List.setIfInBounds_toArray, List.set_cons_zero, List.set_cons_succ]
        refine wpAnyH_take (i := 4) (oi := ⟨_, _, _, _, _, _⟩) (v := ?_) rfl (by kernel_rfl) (by kernel_rfl) (by kernel_rfl) (fun _ _ _ h => h) (Or.inl ⟨by rfl, ?_⟩) (by assumption) ?_
        rotate_left
        · intro w hSw; (try dsimp only at hSw); first | (go_simp; done) | (go_simp; with_reducible rfl)
        try simp only [Act.put, List.setIfInBounds_toArray, List.set_cons_zero, List.set_cons_succ]
        refine wpAnyH_take (i := 5) (oi := ⟨_, _, _, _, _, _⟩) (v := ?_) rfl (by kernel_rfl) (by kernel_rfl) (by kernel_rfl) (fun _ _ _ h => h) (Or.inl ⟨by rfl, ?_⟩) (by assumption) ?_
        rotate_left
        · intro w hSw; (try dsimp only at hSw); first | (go_simp; done) | (go_simp; with_reducible rfl)
        try simp only [Act.put, List.setIfInBounds_toArray, List.set_cons_zero, List.set_cons_succ]
        refine wpAnyH_take (i := 6) (oi := ⟨_, _, _, _, _, _⟩) (v := ?_) rfl (by kernel_rfl) (by kernel_rfl) (by kernel_rfl) (fun _ _ _ h => h) (Or.inl ⟨by rfl, ?_⟩) (by assumption) ?_
        rotate_left
        · intro w hSw; (try dsimp only at hSw); first | (go_simp; done) | (go_simp; with_reducible rfl)
        try simp only [Act.put, List.setIfInBounds_toArray, List.set_cons_zero, List.set_cons_succ]
        refine wpAnyH_ready (rs := [3]) (by kernel_rfl) (by simp) ?_
        refine AllReadyH.cons (o := ⟨_, _, _, _, _, _⟩) rfl (fun K hK => ?_) AllReadyH.nil
        go_simp
        refine HN1.out.mono ?_
        rintro e w2 ⟨vi, rfl, hI, hb2⟩
        obtain ⟨ia, ic, rfl⟩ := row_shape_any hI.1
        have HI := Lib.hid hI
        have HB2 : Hid (Below w1.heap.size w1 w2) := Lib.hid ((drewn _ w1 1).trans hb2)
        have HKP : Hid (∀ k, k ≠ w.heap.size → k < w1.heap.size → w2.heap[k]? = w1.heap[k]?) := Lib.hid (fun k _ hk => HB2.out.block k hk)
        clear hI hb2
        try go_wp2_with fail
        refine hK.out _ _ (by exact HK.out _ (Hid.out (by assumption))) (fun hHeld => ?_)
        clear hK K
        try simp only [Act.put, List.setIfInBounds_toArray, List.set_cons_zero, List.set_cons_succ]
        refine wpAnyH_ready (rs := [7]) (by kernel_rfl) (by simp) ?_
        refine AllReadyH.cons (o := ⟨_, _, _, _, _, _⟩) rfl (fun K hK => ?_) AllReadyH.nil
        go_simp
        refine (HN2.out w2 HB2.out).mono ?_
        rintro e w3 ⟨vn, rfl, rfl, hb3⟩
        have HB3 : Hid (Below w1.heap.size w1 w3) := Lib.hid (HB2.out.trans (hb3.mono HB2.out.size))
        have HI3 : Hid (IdsV w1.drew w3 (.slice ia ids.length ic) ids) := Lib.hid ⟨row_kept HI.out.1 (fun q hq => hb3.block q (World.ownsRow.lt HI.out.1 q hq).2), HI.out.2⟩
        have HKP3 : Hid (∀ k, k ≠ w.heap.size → k < w1.heap.size → w3.heap[k]? = w1.heap[k]?) := Lib.hid (fun k _ hk => HB3.out.block k hk)
        have hq3 : w3.heap[w.heap.size]? = some (.cells #[.slice none 0 0, .int .i64 0] 60 (0, 0)) := (HB3.out.block _ (by have := HZ1.out; omega)).trans HBK.out
        have q0 : w3.cell? ⟨w.heap.size, 0, none⟩ = some (.slice none 0 0) := (cell_of_row w3 _ _ _ _ _ hq3).trans rfl
        have q1 : w3.cell? ⟨w.heap.size, 1, none⟩ = some (.int .i64 0) := (cell_of_row w3 _ _ _ _ _ hq3).trans rfl
        have z0 : ∀ j, w3.frozen? ⟨w.heap.size, j, none⟩ = false := fun j => by unfold World.frozen?; rw [hq3]; simp
        clear hb3 HKP hq3
        try go_wp2_with fail
        refine hK.out _ _ (by exact HK.out _ (Hid.out (by assumption))) (fun hHeld => ?_)
        clear hK K
        try simp only [Act.put, List.setIfInBounds_toArray, List.set_cons_zero, List.set_cons_succ]
        refine wpAnyH_take (i := 8) (oi := ⟨_, _, _, _, _, _⟩) (v := ?_) rfl (by kernel_rfl) (by kernel_rfl) (by kernel_rfl) (fun _ _ _ h => h) (Or.inl ⟨by rfl, ?_⟩) (by assumption) ?_
        rotate_left
        · intro w hSw; (try dsimp only at hSw); first | (go_simp; done) | (go_simp; with_reducible rfl)
        try simp only [Act.put, List.setIfInBounds_toArray, List.set_cons_zero, List.set_cons_succ]
        refine wpAnyH_ready (rs := [9]) (by kernel_rfl) (by simp) ?_
        refine AllReadyH.cons (o := ⟨_, _, _, _, _, _⟩) rfl (fun K hK => ?_) AllReadyH.nil
        go_simp
        refine any_stepC (fun w4 hN => ?_)
        have HN4 := Lib.hid hN
        have HKP4 : Hid (∀ k, k ≠ w.heap.size → k < w1.heap.size → w4.heap[k]? = w1.heap[k]?) := Lib.hid (fun k h1 hk => by rw [hN]; exact ((Below.heap_setCell _ _ _ _ (by simpa using h1)).trans (Below.heap_setCell _ _ _ _ (by simpa using h1))).trans (HB3.out.block k hk))
        have r0 : w4.cell? ⟨w.heap.size, 0, none⟩ = some (.slice ia ids.length ic) := by rw [hN]; simp [go_sem, q0]
        have r1 : w4.cell? ⟨w.heap.size, 1, none⟩ = some (.int .i64 n) := by rw [hN]; simp [go_sem, q1]
        have HB4 : Hid (Below w.heap.size w w4) := Lib.hid (by rw [hN]; exact ((HB.out.trans (HB3.out.mono HB.out.size)).setCell (Nat.le_refl _) _).setCell (Nat.le_refl _) _)
        have hz := HZ1.out
        have hr : ∀ q, w1.heap.size ≤ q → w4.heap[q]? = w3.heap[q]? := fun q hq => by rw [hN]; exact (Below.heap_setCell _ _ _ _ (by simp; omega)).trans (Below.heap_setCell _ _ _ _ (by simp; omega))
        have HI4 : Hid (IdsV w w4 (.slice ia ids.length ic) ids) := Lib.hid ⟨own_base (row_kept (w' := w4) HI3.out.1 (fun q hq => hr q (World.ownsRow.lt HI3.out.1 q hq).1)) (by show w.heap.size ≤ w1.heap.size; omega), HI3.out.2⟩
        clear HKP3 q0 q1 z0 hN HN4 hr hz
        try go_wp2_with fail
        refine hK.out _ _ (by exact HK.out _ (Hid.out (by assumption))) (fun hHeld => ?_)
        clear hK K
        try simp only [Act.put, List.setIfInBounds_toArray, List.set_cons_zero, List.set_cons_succ]
        refine wpAnyH_done (by kernel_rfl) ?_ _
        clear hHeld
        go_wp2_with fail
        refine bodyPost_ret (v := .agg #[.slice ia ids.length ic, .int .i64 n]) (by simp [results, Tryd.results49, go_sem, r0, r1]) rfl ?_
        rw [HE.out]
        exact ⟨_, rfl, ⟨_, rfl, HI4.out, HNL.out _ rfl⟩, HB4.out⟩
end Go.Proofs.YtdolonkeanlaoaaDoor
