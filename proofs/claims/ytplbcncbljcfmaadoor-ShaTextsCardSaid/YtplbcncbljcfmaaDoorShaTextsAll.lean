/- The walk of the law ShaTexts. -/
import Derived.Test.YtplbcncbljcfmaaDoorShaShortAll
import Derived.Deep.RegionHeld3
namespace Go.Proofs.YtplbcncbljcfmaaDoor
open Go.RowKit
attribute [local simp high] id_size id_zero

theorem below_tr {w0 w w' : World} (h : Below w0.heap.size w0 w) (hb : Below w.heap.size w w') : Below w0.heap.size w0 w' := h.trans (hb.mono h.size)
set_option maxRecDepth 100000 in
set_option maxHeartbeats 8000000 in
theorem texts_law (S : Nat → Prop) (l s : List UInt8) (v : Value) (ts : List (List UInt8)) (w : World) (hl : l.length = 32) (hts : ts.length ≤ 9223372036854775807) (hS : ∀ k, S k → k < w.heap.size) (hv : IDsC S w v ts) (hE : Env w) :
    Calls Tryd.prog 4 #[.agg (bv l).toArray, .string ⟨s.toArray⟩, v] w (True' w) := by
  obtain ⟨a, cap, rfl⟩ := hv.shape
  have HS := Lib.hid hS
  have HV := Lib.hid hv
  have HL := Lib.hid hl
  have HE := Lib.hid hE
  have i1 : IDAt (w.alloc (.cells (bv l).toArray 25)) w.heap.size l := ⟨hl, new_five w _ _⟩
  have hb1 := (Below.refl w.heap.size w).alloc (Nat.le_refl _) (.cells (bv l).toArray 25)
  have hs1 : (w.alloc (.cells (bv l).toArray 25)).heap.size = w.heap.size + 1 := by simp
  have I1 := Lib.hid i1
  have B1 := Lib.hid hb1
  have HPS := Lib.hid (fun W => parse_any s W)
  have HPR := Lib.hid (fun W => rparse_any s W)
  have HYL := Lib.hid (parseN_len s)
  obtain ⟨y, hy⟩ : ∃ y, y = (parseN s).1 := ⟨_, rfl⟩
  obtain ⟨c, hc⟩ : ∃ c, c = (parseN s).2 := ⟨_, rfl⟩
  rw [← hy, ← hc] at HPS HPR
  rw [← hy] at HYL
  have zyl : (bv y).length = n32 := by rw [bv_len, HYL.out]; rfl
  have heq : ∀ W, (binOp .eql 25 (.agg (bv y).toArray) (.agg (bv y).toArray)).run Tryd.prog W = .ok (.bool true) W := fun W => by
    rw [id_eql W HYL.out HYL.out]; simp
  have HSH := Lib.hid (fun S v W h1 h2 => short_any S l v ts W hl hts h1 h2)
  have HSR := Lib.hid (fun S v W h1 h2 => rshort_any S l v ts W hl hts h1 h2)
  have HH1 := Lib.hid (fun W => hex_any l W hl)
  have HH2 := Lib.hid (fun W => rhex_any l W hl)
  clear hl hE i1 hb1 hS hv hts hy hc
  generalize hexL l = H at *
  generalize shortAt H ts ts.length = n at *
  generalize H.take n = sv at *
  go_enter Tryd.func4, Tryd.ntmps4
  go_wp2_with fail
  generalize w.alloc (.cells (bv l).toArray 25) = w1 at *
  refine (awake_any _ (HE.out.on B1.out)).mono ?_
  rintro e w2 ⟨rfl, hb2⟩
  have hs2 := hb2.size
  have I2 := Lib.hid (I1.out.kept (hb2.block _ (by omega)))
  have B2 := Lib.hid (B1.out.trans (hb2.mono B1.out.size))
  clear hb2
  go_wp2_with fail
  refine (HPS.out _).mono ?_
  rintro e w4 ⟨rfl, hb4⟩
  have hs4 := hb4.size
  have i4 := IDAt.new w4
  have c1 := i4.write (l := y) HYL.out
  have I4 := Lib.hid (I2.out.kept (hb4.block _ (by omega)))
  have B4 := Lib.hid (B2.out.trans (hb4.mono B2.out.size))
  clear hb4
  go_upto_region 4 with fail
  have K4 := Lib.hid (i4.put (l := y) HYL.out)
  have K1 := Lib.hid ((I4.out.kept (Below.heap_alloc w4 (.cells (bv zeros).toArray 25) w.heap.size (by omega))).kept (setRow_other _ w4.heap.size w.heap.size (bv y).toArray (by omega)))
  have B5 := Lib.hid (below_setRow (B4.out.alloc B4.out.size (.cells (bv zeros).toArray 25)) (show w.heap.size ≤ w4.heap.size by omega) (bv y).toArray)
  clear c1 i4 I4 B4
  generalize (w4.alloc (.cells (bv zeros).toArray 25)).setRow w4.heap.size (bv y).toArray = w5 at *
  have hs5 : w4.heap.size < w5.heap.size := (Array.getElem?_eq_some_iff.1 K4.out.blk).1
  go_wp2_with fail
  refine (HPR.out _).mono ?_
  rintro e w6 ⟨rfl, hb6⟩
  have hs6 := hb6.size
  have i6 := IDAt.new w6
  have c1 := i6.write (l := y) HYL.out
  have I4 := Lib.hid (K4.out.kept (hb6.block _ (by omega)))
  have I1 := Lib.hid (K1.out.kept (hb6.block _ (by omega)))
  have B6 := Lib.hid (B5.out.trans (hb6.mono B5.out.size))
  clear hb6
  go_upto_region 5 with fail
  have K6 := Lib.hid (i6.put (l := y) HYL.out)
  have K4 := Lib.hid ((I4.out.kept (Below.heap_alloc w6 (.cells (bv zeros).toArray 25) w4.heap.size (by omega))).kept (setRow_other _ w6.heap.size w4.heap.size (bv y).toArray (by omega)))
  have K1 := Lib.hid ((I1.out.kept (Below.heap_alloc w6 (.cells (bv zeros).toArray 25) w.heap.size (by omega))).kept (setRow_other _ w6.heap.size w.heap.size (bv y).toArray (by omega)))
  have B7 := Lib.hid (below_setRow (B6.out.alloc B6.out.size (.cells (bv zeros).toArray 25)) (show w.heap.size ≤ w6.heap.size by omega) (bv y).toArray)
  clear c1 i6 I4 I1 B6
  generalize (w6.alloc (.cells (bv zeros).toArray 25)).setRow w6.heap.size (bv y).toArray = w7 at *
  have hs7 : w6.heap.size < w7.heap.size := (Array.getElem?_eq_some_iff.1 K6.out.blk).1
  have HF : Hid (∀ w', Below w7.heap.size w7 w' → (loadCellsFrom ⟨w.heap.size, 0, none⟩ 0 n32 #[]).run Tryd.prog w' = .ok (bv l).toArray w' ∧ (loadCellsFrom ⟨w4.heap.size, 0, none⟩ 0 n32 #[]).run Tryd.prog w' = .ok (bv y).toArray w' ∧ (loadCellsFrom ⟨w6.heap.size, 0, none⟩ 0 n32 #[]).run Tryd.prog w' = .ok (bv y).toArray w' ∧ Hid (Below w7.heap.size w7 w')) := Lib.hid (fun w' hb =>
    ⟨(K1.out.kept (w' := w') (hb.block _ (by omega))).cells, (K4.out.kept (w' := w') (hb.block _ (by omega))).cells, (K6.out.kept (w' := w') (hb.block _ (by omega))).cells, Lib.hid hb⟩)
  have HP := Lib.hid (fun (w' : World) (h : (loadCellsFrom ⟨w.heap.size, 0, none⟩ 0 n32 #[]).run Tryd.prog w' = .ok (bv l).toArray w' ∧ (loadCellsFrom ⟨w4.heap.size, 0, none⟩ 0 n32 #[]).run Tryd.prog w' = .ok (bv y).toArray w' ∧ (loadCellsFrom ⟨w6.heap.size, 0, none⟩ 0 n32 #[]).run Tryd.prog w' = .ok (bv y).toArray w' ∧ Hid (Below w7.heap.size w7 w')) => h.2.2.2.out)
  have HS1 : Hid (∀ W, Below w7.heap.size w7 W → Calls Tryd.prog 22 #[.agg (bv l).toArray, .slice a ts.length cap] W fun e w' => e = .returned (.string ⟨sv.toArray⟩) ∧ Below W.heap.size W w') := Lib.hid (fun W hb => HSH.out S _ W (fun k hk => by have := HS.out k hk; have := hb.size; omega) (HV.out.kept (fun k hk => ⟨hk, by have := HS.out k hk; rw [hb.block k (by omega), B7.out.block k this]⟩)))
  have HS2 : Hid (∀ W, Below w7.heap.size w7 W → Calls Tryd.prog 23 #[.agg (bv l).toArray, .slice a ts.length cap] W fun e w' => e = .returned (.string ⟨sv.toArray⟩) ∧ Below W.heap.size W w') := Lib.hid (fun W hb => HSR.out S _ W (fun k hk => by have := HS.out k hk; have := hb.size; omega) (HV.out.kept (fun k hk => ⟨hk, by have := HS.out k hk; rw [hb.block k (by omega), B7.out.block k this]⟩)))
  have h0 := HF.out _ (Below.refl _ w7)
  obtain ⟨e1, e2, e3, e4⟩ := h0
  clear K1 K4 K6 I2 B1 B2 B5 HSH HSR HPS HPR
  refine wp_region_held_drew (S := (fun w' => (loadCellsFrom ⟨w.heap.size, 0, none⟩ 0 n32 #[]).run Tryd.prog w' = .ok (bv l).toArray w' ∧ (loadCellsFrom ⟨w4.heap.size, 0, none⟩ 0 n32 #[]).run Tryd.prog w' = .ok (bv y).toArray w' ∧ (loadCellsFrom ⟨w6.heap.size, 0, none⟩ 0 n32 #[]).run Tryd.prog w' = .ok (bv y).toArray w' ∧ Hid (Below w7.heap.size w7 w'))) (by kernel_rfl) (by first | exact HF.out _ (HP.out _ (by assumption)) | exact HF.out _ (Below.drew (Hid.out (by assumption))) | exact HF.out _ (Hid.out (by assumption))) (fun hHeld => ?_)
  refine wpAnyH_take (i := 0) (oi := ⟨_, _, _, _, _, _⟩) (v := ?_) rfl (by kernel_rfl) (by kernel_rfl) (by kernel_rfl) (fun _ _ _ h => h) (Or.inl ⟨by rfl, ?_⟩) (by assumption) ?_
  rotate_left
  · intro w hSw; (try dsimp only at hSw); first | (go_simp; done) | (go_simp; with_reducible rfl)
  try simp only [Act.put, List.setIfInBounds_toArray, List.set_cons_zero, List.set_cons_succ]
  refine wpAnyH_take (i := 2) (oi := ⟨_, _, _, _, _, _⟩) (v := ?_) rfl (by kernel_rfl) (by kernel_rfl) (by kernel_rfl) (fun _ _ _ h => h) (Or.inl ⟨by rfl, ?_⟩) (by assumption) ?_
  rotate_left
  · intro w hSw; (try dsimp only at hSw); first | (go_simp; done) | (go_simp; with_reducible rfl)
  try simp only [Act.put, List.setIfInBounds_toArray, List.set_cons_zero, List.set_cons_succ]
  refine wpAnyH_ready (rs := [1]) (by kernel_rfl) (by simp) ?_
  refine AllReadyH.cons (o := ⟨_, _, _, _, _, _⟩) rfl (fun K hK => ?_) AllReadyH.nil
  go_simp
  refine (HH1.out _).mono ?_; rintro e wa1 ⟨rfl, hba⟩; have HA1 := Lib.hid (below_tr (HP.out _ (by assumption)) hba); clear hba
  try go_wp2_with fail
  refine hK.out _ _ (by first | exact HF.out _ (HP.out _ (by assumption)) | exact HF.out _ (Below.drew (Hid.out (by assumption))) | exact HF.out _ (Hid.out (by assumption))) (fun hHeld => ?_)
  clear hK K
  try simp only [Act.put, List.setIfInBounds_toArray, List.set_cons_zero, List.set_cons_succ]
  refine wpAnyH_ready (rs := [3]) (by kernel_rfl) (by simp) ?_
  refine AllReadyH.cons (o := ⟨_, _, _, _, _, _⟩) rfl (fun K hK => ?_) AllReadyH.nil
  go_simp
  refine (HH2.out _).mono ?_; rintro e wa2 ⟨rfl, hba⟩; have HA2 := Lib.hid (below_tr (HP.out _ (by assumption)) hba); clear hba
  try go_wp2_with fail
  refine hK.out _ _ (by first | exact HF.out _ (HP.out _ (by assumption)) | exact HF.out _ (Below.drew (Hid.out (by assumption))) | exact HF.out _ (Hid.out (by assumption))) (fun hHeld => ?_)
  clear hK K
  try simp only [Act.put, List.setIfInBounds_toArray, List.set_cons_zero, List.set_cons_succ]
  refine wpAnyH_take (i := 4) (oi := ⟨_, _, _, _, _, _⟩) (v := ?_) rfl (by kernel_rfl) (by kernel_rfl) (by kernel_rfl) (fun _ _ _ h => h) (Or.inl ⟨by rfl, ?_⟩) (by assumption) ?_
  rotate_left
  · intro w hSw; (try dsimp only at hSw); first | (go_simp; done) | (go_simp; with_reducible rfl)
  try simp only [Act.put, List.setIfInBounds_toArray, List.set_cons_zero, List.set_cons_succ]
  refine wpAnyH_take (i := 5) (oi := ⟨_, _, _, _, _, _⟩) (v := ?_) rfl (by kernel_rfl) (by kernel_rfl) (by kernel_rfl) (fun _ _ _ h => h) (Or.inl ⟨by rfl, ?_⟩) (by assumption) ?_
  rotate_left
  · intro w hSw; (try dsimp only at hSw); first | (go_simp; done) | (go_simp; with_reducible rfl)
  try simp only [Act.put, List.setIfInBounds_toArray, List.set_cons_zero, List.set_cons_succ]
  refine wpAnyH_take (i := 6) (oi := ⟨_, _, _, _, _, _⟩) (v := ?_) rfl (by kernel_rfl) (by kernel_rfl) (by kernel_rfl) (fun _ _ _ h => h) (Or.inl ⟨by rfl, ?_⟩) (by assumption) ?_
  rotate_left
  · intro w hSw; (try dsimp only at hSw); first | (go_simp; done) | (go_simp; with_reducible rfl)
  try simp only [Act.put, List.setIfInBounds_toArray, List.set_cons_zero, List.set_cons_succ]
  refine wpAnyH_take (i := 7) (oi := ⟨_, _, _, _, _, _⟩) (v := ?_) rfl (by kernel_rfl) (by kernel_rfl) (by kernel_rfl) (fun _ _ _ h => h) (Or.inl ⟨by rfl, ?_⟩) (by assumption) ?_
  rotate_left
  · intro w hSw; (try dsimp only at hSw); first | (go_simp; done) | (go_simp; with_reducible rfl)
  try simp only [Act.put, List.setIfInBounds_toArray, List.set_cons_zero, List.set_cons_succ]
  refine wpAnyH_take (i := 8) (oi := ⟨_, _, _, _, _, _⟩) (v := ?_) rfl (by kernel_rfl) (by kernel_rfl) (by kernel_rfl) (fun _ _ _ h => h) (Or.inl ⟨by rfl, ?_⟩) (by assumption) ?_
  rotate_left
  · intro w hSw; (try dsimp only at hSw); first | (go_simp; done) | (go_simp; with_reducible rfl)
  try simp only [Act.put, List.setIfInBounds_toArray, List.set_cons_zero, List.set_cons_succ]
  refine wpAnyH_take (i := 9) (oi := ⟨_, _, _, _, _, _⟩) (v := ?_) rfl (by kernel_rfl) (by kernel_rfl) (by kernel_rfl) (fun _ _ _ h => h) (Or.inl ⟨by rfl, ?_⟩) (by assumption) ?_
  rotate_left
  · intro w hSw; (try dsimp only at hSw); first | (go_simp; done) | (go_simp; with_reducible rfl)
  try simp only [Act.put, List.setIfInBounds_toArray, List.set_cons_zero, List.set_cons_succ]
  refine wpAnyH_take (i := 10) (oi := ⟨_, _, _, _, _, _⟩) (v := ?_) rfl (by kernel_rfl) (by kernel_rfl) (by kernel_rfl) (fun _ _ _ h => h) (Or.inl ⟨by rfl, ?_⟩) (by assumption) ?_
  rotate_left
  · intro w hSw; (try dsimp only at hSw); first | (go_simp; done) | (go_simp; with_reducible rfl)
  try simp only [Act.put, List.setIfInBounds_toArray, List.set_cons_zero, List.set_cons_succ]
  refine wpAnyH_take (i := 11) (oi := ⟨_, _, _, _, _, _⟩) (v := ?_) rfl (by kernel_rfl) (by kernel_rfl) (by kernel_rfl) (fun _ _ _ h => h) (Or.inl ⟨by rfl, ?_⟩) (by assumption) ?_
  rotate_left
  · intro w hSw; (try dsimp only at hSw); first | (go_simp; done) | (go_simp; with_reducible rfl)
  try simp only [Act.put, List.setIfInBounds_toArray, List.set_cons_zero, List.set_cons_succ]
  refine wpAnyH_take (i := 12) (oi := ⟨_, _, _, _, _, _⟩) (v := ?_) rfl (by kernel_rfl) (by kernel_rfl) (by kernel_rfl) (fun _ _ _ h => h) (Or.inl ⟨by rfl, ?_⟩) (by assumption) ?_
  rotate_left
  · intro w hSw; (try dsimp only at hSw); first | (go_simp; done) | (go_simp; with_reducible rfl)
  try simp only [Act.put, List.setIfInBounds_toArray, List.set_cons_zero, List.set_cons_succ]
  refine wpAnyH_take (i := 13) (oi := ⟨_, _, _, _, _, _⟩) (v := ?_) rfl (by kernel_rfl) (by kernel_rfl) (by kernel_rfl) (fun _ _ _ h => h) (Or.inl ⟨by rfl, ?_⟩) (by assumption) ?_
  rotate_left
  · intro w hSw; (try dsimp only at hSw); first | (go_simp; done) | (go_simp; with_reducible rfl)
  try simp only [Act.put, List.setIfInBounds_toArray, List.set_cons_zero, List.set_cons_succ]
  refine wpAnyH_take (i := 14) (oi := ⟨_, _, _, _, _, _⟩) (v := ?_) rfl (by kernel_rfl) (by kernel_rfl) (by kernel_rfl) (fun _ _ _ h => h) (Or.inl ⟨by rfl, ?_⟩) (by assumption) ?_
  rotate_left
  · intro w hSw; (try dsimp only at hSw); first | (go_simp; done) | (go_simp; with_reducible rfl)
  try simp only [Act.put, List.setIfInBounds_toArray, List.set_cons_zero, List.set_cons_succ]
  refine wpAnyH_take (i := 15) (oi := ⟨_, _, _, _, _, _⟩) (v := ?_) rfl (by kernel_rfl) (by kernel_rfl) (by kernel_rfl) (fun _ _ _ h => h) (Or.inl ⟨by rfl, ?_⟩) (by assumption) ?_
  rotate_left
  · intro w hSw; (try dsimp only at hSw); first | (go_simp; done) | (go_simp; with_reducible rfl)
  try simp only [Act.put, List.setIfInBounds_toArray, List.set_cons_zero, List.set_cons_succ]
  refine wpAnyH_take (i := 16) (oi := ⟨_, _, _, _, _, _⟩) (v := ?_) rfl (by kernel_rfl) (by kernel_rfl) (by kernel_rfl) (fun _ _ _ h => h) (Or.inl ⟨by rfl, ?_⟩) (by assumption) ?_
  rotate_left
  · intro w hSw; (try dsimp only at hSw); first | (go_simp; done) | (go_simp; with_reducible rfl)
  try simp only [Act.put, List.setIfInBounds_toArray, List.set_cons_zero, List.set_cons_succ]
  refine wpAnyH_take (i := 17) (oi := ⟨_, _, _, _, _, _⟩) (v := ?_) rfl (by kernel_rfl) (by kernel_rfl) (by kernel_rfl) (fun _ _ _ h => h) (Or.inl ⟨by rfl, ?_⟩) (by assumption) ?_
  rotate_left
  · intro w hSw; (try dsimp only at hSw); first | (go_simp; done) | (go_simp; with_reducible rfl)
  try simp only [Act.put, List.setIfInBounds_toArray, List.set_cons_zero, List.set_cons_succ]
  refine wpAnyH_take (i := 19) (oi := ⟨_, _, _, _, _, _⟩) (v := ?_) rfl (by kernel_rfl) (by kernel_rfl) (by kernel_rfl) (fun _ _ _ h => h) (Or.inl ⟨by rfl, ?_⟩) (by assumption) ?_
  rotate_left
  · intro w hSw; (try dsimp only at hSw); first | (go_simp; done) | (go_simp; with_reducible rfl)
  try simp only [Act.put, List.setIfInBounds_toArray, List.set_cons_zero, List.set_cons_succ]
  refine wpAnyH_take (i := 20) (oi := ⟨_, _, _, _, _, _⟩) (v := ?_) rfl (by kernel_rfl) (by kernel_rfl) (by kernel_rfl) (fun _ _ _ h => h) (Or.inl ⟨by rfl, ?_⟩) (by assumption) ?_
  rotate_left
  · intro w hSw; (try dsimp only at hSw); first | (go_simp; done) | (go_simp; with_reducible rfl)
  try simp only [Act.put, List.setIfInBounds_toArray, List.set_cons_zero, List.set_cons_succ]
  refine wpAnyH_ready (rs := [18]) (by kernel_rfl) (by simp) ?_
  refine AllReadyH.cons (o := ⟨_, _, _, _, _, _⟩) rfl (fun K hK => ?_) AllReadyH.nil
  go_simp
  refine (HS1.out _ (HP.out _ (by assumption))).mono ?_; rintro e wa3 ⟨rfl, hba⟩; have HA3 := Lib.hid (below_tr (HP.out _ (by assumption)) hba); clear hba
  try go_wp2_with fail
  refine hK.out _ _ (by first | exact HF.out _ (HP.out _ (by assumption)) | exact HF.out _ (Below.drew (Hid.out (by assumption))) | exact HF.out _ (Hid.out (by assumption))) (fun hHeld => ?_)
  clear hK K
  try simp only [Act.put, List.setIfInBounds_toArray, List.set_cons_zero, List.set_cons_succ]
  refine wpAnyH_ready (rs := [21]) (by kernel_rfl) (by simp) ?_
  refine AllReadyH.cons (o := ⟨_, _, _, _, _, _⟩) rfl (fun K hK => ?_) AllReadyH.nil
  go_simp
  refine (HS2.out _ (HP.out _ (by assumption))).mono ?_; rintro e wa4 ⟨rfl, hba⟩; have HA4 := Lib.hid (below_tr (HP.out _ (by assumption)) hba); clear hba
  try go_wp2_with fail
  refine hK.out _ _ (by first | exact HF.out _ (HP.out _ (by assumption)) | exact HF.out _ (Below.drew (Hid.out (by assumption))) | exact HF.out _ (Hid.out (by assumption))) (fun hHeld => ?_)
  clear hK K
  try simp only [Act.put, List.setIfInBounds_toArray, List.set_cons_zero, List.set_cons_succ]
  refine wpAnyH_take (i := 22) (oi := ⟨_, _, _, _, _, _⟩) (v := ?_) rfl (by kernel_rfl) (by kernel_rfl) (by kernel_rfl) (fun _ _ _ h => h) (Or.inl ⟨by rfl, ?_⟩) (by assumption) ?_
  rotate_left
  · intro w hSw; (try dsimp only at hSw); first | (go_simp; done) | (go_simp; with_reducible rfl)
  try simp only [Act.put, List.setIfInBounds_toArray, List.set_cons_zero, List.set_cons_succ]
  refine wpAnyH_take (i := 23) (oi := ⟨_, _, _, _, _, _⟩) (v := ?_) rfl (by kernel_rfl) (by kernel_rfl) (by kernel_rfl) (fun _ _ _ h => h) (Or.inl ⟨by rfl, ?_⟩) (by assumption) ?_
  rotate_left
  · intro w hSw; (try dsimp only at hSw); first | (go_simp; done) | (go_simp; with_reducible rfl)
  try simp only [Act.put, List.setIfInBounds_toArray, List.set_cons_zero, List.set_cons_succ]
  refine wpAnyH_take (i := 24) (oi := ⟨_, _, _, _, _, _⟩) (v := ?_) rfl (by kernel_rfl) (by kernel_rfl) (by kernel_rfl) (fun _ _ _ h => h) (Or.inl ⟨by rfl, ?_⟩) (by assumption) ?_
  rotate_left
  · intro w hSw; (try dsimp only at hSw); first | (go_simp; done) | (go_simp; with_reducible rfl)
  try simp only [Act.put, List.setIfInBounds_toArray, List.set_cons_zero, List.set_cons_succ]
  refine wpAnyH_done (by kernel_rfl) ?_ _
  go_wp2_with fail
  go_ret
  exact ⟨rfl, B7.out.trans (HA4.out.mono B7.out.size)⟩
end Go.Proofs.YtplbcncbljcfmaaDoor
