/- The walk of the reference's GetCommit. -/
import Derived.Test.YtdolonkeanlaoaaObSe
import Derived.Test.YtdolonkeanlaoaaObRd
namespace Go.Proofs.Ytdolonkeanlaoaa
open Go.RowKit
attribute [local simp high] id_size id_zero rcom_size rcom_zero n32_ne n36_ne

theorem com_settree (Z X : List UInt8) (a : Option Addr) (n c s : Nat) (au no : List UInt8) (j : Nat) (hj : j < 36) : (if 0 ≤ j ∧ j < 0 + n32 then comF X a n c s au no (j - 0) else comF Z a n c s au no j) = comF X a n c s au no j := by
  by_cases h : 0 ≤ j ∧ j < 0 + n32
  · rw [if_pos h, Nat.sub_zero]
  · rw [if_neg h]
    have h' : ¬ j < 32 := by unfold n32 at h; omega
    unfold comF
    simp only [h', if_false]
theorem com_set32 (t : List UInt8) (a a' : Option Addr) (n c n' c' s : Nat) (au no : List UInt8) (j : Nat) : (if j = 32 then Value.slice a' n' c' else comF t a n c s au no j) = comF t a' n' c' s au no j := by
  by_cases h : j = 32
  · subst h; rfl
  · rw [if_neg h]
    unfold comF
    simp [h]
set_option maxRecDepth 100000 in
set_option maxHeartbeats 8000000 in
theorem dgcom_any (s : List UInt8) (w : World) (hm : s.length ≤ 281474976710656) :
    Calls Try.prog 24 #[.string ⟨s.toArray⟩] w (FaceR (ComV w) (.agg (rowL n36 comZ).toArray) w (comR s)) := by
  have hst := run_storeF
  obtain ⟨w0, hw0⟩ : ∃ w0, w0 = w.alloc (.cells (rowL n36 comZ).toArray 46) := ⟨_, rfl⟩
  have HB0 : Hid (Below w.heap.size w w0) := Lib.hid (by rw [hw0]; exact (Below.refl _ w).alloc (Nat.le_refl _) _)
  have HZ0 : Hid (w0.heap.size = w.heap.size + 1) := Lib.hid (by rw [hw0]; simp)
  have HR0 : Hid (RF w0 w.heap.size 46 n36 comZ) := Lib.hid (by rw [hw0]; exact RF.new _ _ _ _)
  have HO := Lib.hid (dopen_any s 4 5 w0 hm (by omega) (by omega) (by omega))
  have HW0 := Lib.hid hw0
  have hlz := rowL_len n36 comZ
  unfold comR
  clear hm hw0
  cases hd : fieldsR s 4 5 with
  | error c =>
    rw [hd] at HO
    rw [andR_bad rfl]
    have hc0 : c ≠ 0 := fields_err hd
    have g0 : (c == 0) = false := by rw [beq_eq_false_iff_ne]; exact hc0
    have g1 : (c != 0) = true := by rw [bne_iff_ne]; exact hc0
    clear hc0
    clear hd
    go_enter Try.func24, Try.ntmps24
    go_upto_region 1 with fail
    rw [← HW0.out]
    go_wp2_with fail
    refine HO.out.mono ?_
    rintro e w1 ⟨rfl, hb1⟩
    have HBQ := Lib.hid hb1
    clear hb1
    have hr := HR0.out.kept (HBQ.out.block w.heap.size (by rw [HZ0.out]; omega))
    have stz := hr.write (com_one zeros none 0 0 0 [] [] n36)
    rw [setRow_self _ _ _ _ _ hr.blk] at stz
    have HRR := Lib.hid hr
    have HBF : Hid (Below w.heap.size w w1) := Lib.hid (HB0.out.trans (HBQ.out.mono HB0.out.size))
    have holz := rowL_len n36 comZ
    clear hr
    go_wp2_with fail
    refine bodyPost_ret (results_row Try.results24 _ _ rfl rfl (HRR.out.var (rcom_agg _) (rcom_size _))) rfl ?_
    exact ⟨rfl, HBF.out⟩
  | ok vs =>
    rw [hd] at HO
    rw [andR_of rfl]
    obtain ⟨xx, hdx, hfx⟩ := andR_ok hd
    have HLEN := Lib.hid (fieldsV_ok hfx).2.1
    clear hd hdx hfx
    go_enter Try.func24, Try.ntmps24
    go_upto_region 1 with fail
    rw [← HW0.out]
    go_wp2_with fail
    refine HO.out.mono ?_
    rintro e w1 ⟨vl, rfl, hL, hb1⟩
    obtain ⟨la, lc, rfl⟩ := ListS.shape hL
    rw [HLEN.out] at hL ⊢
    obtain ⟨g, o, p0, pc0, q0, qc0, rfl, hg, _, hcm, ⟨a0, a1, a2, a3, a4⟩, hx0⟩ := hL.el HLEN.out (j := 0) (by omega)
    obtain ⟨g', o', p1, pc1, q1, qc1, heq, _, _, _, ⟨b0, b1, b2, b3, b4⟩, hx1⟩ := hL.el HLEN.out (j := 1) (by omega)
    injection heq with heq
    injection heq with heq1 heq2
    subst heq1 heq2
    obtain ⟨g', o', p2, pc2, q2, qc2, heq, _, _, _, ⟨c0, c1, c2, c3, c4⟩, hx2⟩ := hL.el HLEN.out (j := 2) (by omega)
    injection heq with heq
    injection heq with heq1 heq2
    subst heq1 heq2
    obtain ⟨g', o', p3, pc3, q3, qc3, heq, _, _, _, ⟨d0, d1, d2, d3, d4⟩, hx3⟩ := hL.el HLEN.out (j := 3) (by omega)
    injection heq with heq
    injection heq with heq1 heq2
    subst heq1 heq2
    obtain ⟨g', o', p4, pc4, q4, qc4, heq, _, _, _, ⟨e0, e1, e2, e3, e4⟩, hx4⟩ := hL.el HLEN.out (j := 4) (by omega)
    injection heq with heq
    injection heq with heq1 heq2
    subst heq1 heq2
    simp only [Nat.zero_mul, Nat.add_zero, Nat.one_mul, show 2 * 5 = 10 from rfl, show 3 * 5 = 15 from rfl, show 4 * 5 = 20 from rfl] at a0 a1 a2 a3 a4 b0 b1 b2 b3 b4 c0 c1 c2 c3 c4 d0 d1 d2 d3 d4 e0 e1 e2 e3 e4
    have HQ : Hid (∀ W, Below w1.heap.size w1 W → ∀ j, W.cell? ⟨g, j, none⟩ = w1.cell? ⟨g, j, none⟩) := Lib.hid (fun W hW j => World.cell?_of_block (w := w1) (hW.block g hg.2))
    have HC0 : Hid (∀ W, Below w1.heap.size w1 W → W.cell? ⟨g, o, none⟩ = some (.int .i64 (at0 vs 0).kind) ∧ W.cell? ⟨g, o + 1, none⟩ = some (.int .u64 (at0 vs 0).num) ∧ W.cell? ⟨g, o + 2, none⟩ = some (.slice p0 (at0 vs 0).bytes.length pc0) ∧ W.cell? ⟨g, o + 3, none⟩ = some (.float .f64 (at0 vs 0).real) ∧ W.cell? ⟨g, o + 4, none⟩ = some (.slice q0 (at0 vs 0).list.length qc0)) := Lib.hid (fun W hW => ⟨(HQ.out W hW _).trans a0, (HQ.out W hW _).trans a1, (HQ.out W hW _).trans a2, (HQ.out W hW _).trans a3, (HQ.out W hW _).trans a4⟩)
    have HC1 : Hid (∀ W, Below w1.heap.size w1 W → W.cell? ⟨g, o + 5, none⟩ = some (.int .i64 (at0 vs 1).kind) ∧ W.cell? ⟨g, o + 5 + 1, none⟩ = some (.int .u64 (at0 vs 1).num) ∧ W.cell? ⟨g, o + 5 + 2, none⟩ = some (.slice p1 (at0 vs 1).bytes.length pc1) ∧ W.cell? ⟨g, o + 5 + 3, none⟩ = some (.float .f64 (at0 vs 1).real) ∧ W.cell? ⟨g, o + 5 + 4, none⟩ = some (.slice q1 (at0 vs 1).list.length qc1)) := Lib.hid (fun W hW => ⟨(HQ.out W hW _).trans b0, (HQ.out W hW _).trans b1, (HQ.out W hW _).trans b2, (HQ.out W hW _).trans b3, (HQ.out W hW _).trans b4⟩)
    have HC2 : Hid (∀ W, Below w1.heap.size w1 W → W.cell? ⟨g, o + 10, none⟩ = some (.int .i64 (at0 vs 2).kind) ∧ W.cell? ⟨g, o + 10 + 1, none⟩ = some (.int .u64 (at0 vs 2).num) ∧ W.cell? ⟨g, o + 10 + 2, none⟩ = some (.slice p2 (at0 vs 2).bytes.length pc2) ∧ W.cell? ⟨g, o + 10 + 3, none⟩ = some (.float .f64 (at0 vs 2).real) ∧ W.cell? ⟨g, o + 10 + 4, none⟩ = some (.slice q2 (at0 vs 2).list.length qc2)) := Lib.hid (fun W hW => ⟨(HQ.out W hW _).trans c0, (HQ.out W hW _).trans c1, (HQ.out W hW _).trans c2, (HQ.out W hW _).trans c3, (HQ.out W hW _).trans c4⟩)
    have HC3 : Hid (∀ W, Below w1.heap.size w1 W → W.cell? ⟨g, o + 15, none⟩ = some (.int .i64 (at0 vs 3).kind) ∧ W.cell? ⟨g, o + 15 + 1, none⟩ = some (.int .u64 (at0 vs 3).num) ∧ W.cell? ⟨g, o + 15 + 2, none⟩ = some (.slice p3 (at0 vs 3).bytes.length pc3) ∧ W.cell? ⟨g, o + 15 + 3, none⟩ = some (.float .f64 (at0 vs 3).real) ∧ W.cell? ⟨g, o + 15 + 4, none⟩ = some (.slice q3 (at0 vs 3).list.length qc3)) := Lib.hid (fun W hW => ⟨(HQ.out W hW _).trans d0, (HQ.out W hW _).trans d1, (HQ.out W hW _).trans d2, (HQ.out W hW _).trans d3, (HQ.out W hW _).trans d4⟩)
    have HC4 : Hid (∀ W, Below w1.heap.size w1 W → W.cell? ⟨g, o + 20, none⟩ = some (.int .i64 (at0 vs 4).kind) ∧ W.cell? ⟨g, o + 20 + 1, none⟩ = some (.int .u64 (at0 vs 4).num) ∧ W.cell? ⟨g, o + 20 + 2, none⟩ = some (.slice p4 (at0 vs 4).bytes.length pc4) ∧ W.cell? ⟨g, o + 20 + 3, none⟩ = some (.float .f64 (at0 vs 4).real) ∧ W.cell? ⟨g, o + 20 + 4, none⟩ = some (.slice q4 (at0 vs 4).list.length qc4)) := Lib.hid (fun W hW => ⟨(HQ.out W hW _).trans e0, (HQ.out W hW _).trans e1, (HQ.out W hW _).trans e2, (HQ.out W hW _).trans e3, (HQ.out W hW _).trans e4⟩)
    have HSW : Hid (∀ W, Below w1.heap.size w1 W → ∀ q, NewS w0 w1 q → q < W.heap.size) := Lib.hid (fun W hW q hq => by have := hq.2; have := hW.size; omega)
    have HXK : Hid (∀ W, Below w1.heap.size w1 W → ∀ (v : Value) (y : Val), ReadsS (NewS w0 w1) w1 15 v y → ReadsS (NewS w0 w1) W 15 v y) := Lib.hid (fun W hW v y h => ReadsS.kept (fun q hq => ⟨hq, hW.block q hq.2⟩) 15 _ _ h)
    have HF0 : Hid (∀ W, Below w1.heap.size w1 W → Calls Try.prog 63 #[.agg #[.int .i64 (at0 vs 0).kind, .int .u64 (at0 vs 0).num, .slice p0 (at0 vs 0).bytes.length pc0, .float .f64 (at0 vs 0).real, .slice q0 (at0 vs 0).list.length qc0]] W (FaceR (fun _ v X => v = .agg (bv X).toArray ∧ X.length = 32) (.agg (bv zeros).toArray) W (nameR (at0 vs 0)))) := Lib.hid (fun W hW => did_any (NewS w0 w1) 14 _ _ W (HSW.out W hW) (HXK.out W hW _ _ hx0))
    have HF1 : Hid (∀ W, Below w1.heap.size w1 W → Calls Try.prog 57 #[.agg #[.int .i64 (at0 vs 1).kind, .int .u64 (at0 vs 1).num, .slice p1 (at0 vs 1).bytes.length pc1, .float .f64 (at0 vs 1).real, .slice q1 (at0 vs 1).list.length qc1], .int .i64 8] W (FaceR (IdsV W) (.slice none 0 0) W (namesR 8 (at0 vs 1)))) := Lib.hid (fun W hW => dids_any (NewS w0 w1) 13 8 _ _ W (HSW.out W hW) (HXK.out W hW _ _ hx1))
    have HF3 : Hid (∀ W, Below w1.heap.size w1 W → Calls Try.prog 54 #[.agg #[.int .i64 (at0 vs 3).kind, .int .u64 (at0 vs 3).num, .slice p3 (at0 vs 3).bytes.length pc3, .float .f64 (at0 vs 3).real, .slice q3 (at0 vs 3).list.length qc3], .int .i64 64] W fun e w' => e = .returned (.int .i64 (codA (textR 64 (at0 vs 3)))) ∧ Below W.heap.size W w') := Lib.hid (fun W hW => dtext_any (NewS w0 w1) 14 64 _ _ W (HXK.out W hW _ _ hx3))
    have HF4 : Hid (∀ W, Below w1.heap.size w1 W → Calls Try.prog 54 #[.agg #[.int .i64 (at0 vs 4).kind, .int .u64 (at0 vs 4).num, .slice p4 (at0 vs 4).bytes.length pc4, .float .f64 (at0 vs 4).real, .slice q4 (at0 vs 4).list.length qc4], .int .i64 1024] W fun e w' => e = .returned (.int .i64 (codA (textR 1024 (at0 vs 4)))) ∧ Below W.heap.size W w') := Lib.hid (fun W hW => dtext_any (NewS w0 w1) 14 1024 _ _ W (HXK.out W hW _ _ hx4))
    have HY3 : Hid (∀ W, Below w1.heap.size w1 W → BytesC (NewS w0 w1) W (.slice p3 (at0 vs 3).bytes.length pc3) (at0 vs 3).bytes) := Lib.hid (fun W hW => (HXK.out W hW _ _ hx3).bytes)
    have HY4 : Hid (∀ W, Below w1.heap.size w1 W → BytesC (NewS w0 w1) W (.slice p4 (at0 vs 4).bytes.length pc4) (at0 vs 4).bytes) := Lib.hid (fun W hW => (HXK.out W hW _ _ hx4).bytes)
    have HRL : Hid ((at0 vs 2).real < 18446744073709551616) := Lib.hid (by obtain ⟨_, _, _, _, _, _, h, _⟩ := hx2.parts; exact h)
    clear hL hcm hg hx0 hx1 hx2 hx3 hx4 a0 a1 a2 a3 a4 b0 b1 b2 b3 b4 c0 c1 c2 c3 c4 d0 d1 d2 d3 d4 e0 e1 e2 e3 e4
    have HB1 := Lib.hid hb1
    have r2 := RF.new w1 46 n36 comZ
    have st0 := r2.write (com_one zeros none 0 0 0 [] [] n36)
    rw [setRow_self _ _ _ _ _ r2.blk] at st0
    have HR2 := Lib.hid r2
    have HBA : Hid (Below w1.heap.size w1 (w1.alloc (.cells (rowL n36 comZ).toArray 46))) := Lib.hid ((Below.refl _ w1).alloc (Nat.le_refl _) _)
    clear r2
    go_upto_region 5 with fail
    clear st0
    generalize w1.alloc (.cells (rowL n36 comZ).toArray 46) = w2 at *
    obtain ⟨eb, heb⟩ : ∃ eb, w1.heap.size = eb := ⟨_, rfl⟩
    have HEB := Lib.hid (show w1.heap.size ≤ eb by omega)
    rw [heb] at HR2 ⊢
    clear heb
    have HBT : Hid (∀ W, Below w1.heap.size w1 W → Below w0.heap.size w0 W) := Lib.hid (fun W hW => hb1.trans (hW.mono hb1.size))
    clear hb1
    obtain ⟨N0, hN0⟩ : ∃ N, nameR (at0 vs 0) = N := ⟨_, rfl⟩
    have HN0 := Lib.hid hN0
    rw [hN0] at HF0
    clear hN0
    obtain ⟨k0, k1, k2, k3, k4⟩ := HC0.out w2 HBA.out
    go_wp2_with fail
    refine (HF0.out w2 HBA.out).mono ?_
    intro e w3 h3
    clear k0 k1 k2 k3 k4
    cases N0 with
    | error c =>
      obtain ⟨rfl, hb3⟩ := h3
      have hc0 : c ≠ 0 := nameR_err HN0.out
      have g0 : (c == 0) = false := by rw [beq_eq_false_iff_ne]; exact hc0
      have g1 : (c != 0) = true := by rw [bne_iff_ne]; exact hc0
      clear hc0
      have HER : Hid (comL vs = .error c) := Lib.hid (by unfold comL; rw [HN0.out]; rfl)
      have hr3 := HR2.out.kept (hb3.block eb HR2.out.lt)
      obtain ⟨w4, st4, _, hbb4, _, _⟩ := hr3.store (o := 0) (m := n32) (G := fun _ => .int .u8 0) (by unfold n32 n36; omega) (fun k _ => rfl)
      rw [zero_row] at st4
      have zl := zeros_len
      have HB4 : Hid (Below w0.heap.size w0 w4) := Lib.hid (HBT.out w4 (hbb4 _ _ (HBA.out.trans (hb3.mono HBA.out.size)) HEB.out))
      clear hb3 hbb4 hr3
      have hr := HR0.out.kept (HB4.out.block w.heap.size (by rw [HZ0.out]; omega))
      have stz := hr.write (com_one zeros none 0 0 0 [] [] n36)
      rw [setRow_self _ _ _ _ _ hr.blk] at stz
      have HRR := Lib.hid hr
      have HBF : Hid (Below w.heap.size w w4) := Lib.hid (HB0.out.trans (HB4.out.mono HB0.out.size))
      have holz := rowL_len n36 comZ
      clear hr
      go_wp2_with fail
      refine bodyPost_ret (results_row Try.results24 _ _ rfl rfl (HRR.out.var (rcom_agg _) (rcom_size _))) rfl ?_
      rw [HER.out]
      exact ⟨rfl, HBF.out⟩
    | ok X =>
      obtain ⟨vX, rfl, ⟨rfl, hX⟩, hb3⟩ := h3
      have HX := Lib.hid hX
      have hr3 := HR2.out.kept (hb3.block eb HR2.out.lt)
      obtain ⟨w4, st4, hr4, hbb4, _, _⟩ := hr3.store (o := 0) (m := n32) (G := comF X none 0 0 0 [] []) (by unfold n32 n36; omega) (com_one X none 0 0 0 [] [] n32)
      rw [com_tree hX none 0 0 0 [] []] at st4
      have zx : (bv X).length = n32 := by rw [bv_len, hX]; rfl
      have HR4 : Hid (RF w4 eb 46 n36 (comF X none 0 0 0 [] [])) := Lib.hid (hr4.congr (fun j hj => com_settree zeros X none 0 0 0 [] [] j (by unfold n36 at hj; exact hj)))
      have HB4 : Hid (Below w1.heap.size w1 w4) := Lib.hid (hbb4 _ _ (HBA.out.trans (hb3.mono HBA.out.size)) HEB.out)
      clear hb3 hbb4 hr3 hr4 hX HR2 HBA
      go_upto_region 7 with fail
      clear st4 zx
      obtain ⟨N1, hN1⟩ : ∃ N, namesR 8 (at0 vs 1) = N := ⟨_, rfl⟩
      have HN1 := Lib.hid hN1
      rw [hN1] at HF1
      clear hN1
      obtain ⟨k0, k1, k2, k3, k4⟩ := HC1.out w4 HB4.out
      go_wp2_with fail
      refine (HF1.out w4 HB4.out).mono ?_
      intro e w5 h5
      clear k0 k1 k2 k3 k4
      cases N1 with
      | error c =>
        obtain ⟨rfl, hb5⟩ := h5
        have hc0 : c ≠ 0 := names_err HN1.out
        have g0 : (c == 0) = false := by rw [beq_eq_false_iff_ne]; exact hc0
        have g1 : (c != 0) = true := by rw [bne_iff_ne]; exact hc0
        clear hc0
        have HER : Hid (comL vs = .error c) := Lib.hid (by unfold comL; simp only [andR_of HN0.out]; rw [HN1.out]; rfl)
        have hr5 := HR4.out.kept (hb5.block eb HR4.out.lt)
        have c32 : w5.cell? ⟨eb, 32, none⟩ = some (comF X none 0 0 0 [] [] 32) := hr5.cell (by unfold n36; omega)
        have z32 := hr5.free 32
        have HB6 : Hid (Below w0.heap.size w0 (w5.setCell ⟨eb, 32, none⟩ (.slice none 0 0))) := Lib.hid (HBT.out _ ((HB4.out.trans (hb5.mono HB4.out.size)).setCell (p := ⟨eb, 32, none⟩) HEB.out _))
        clear hb5 hr5
        go_upto_region 8 with fail
        clear c32 z32
        generalize w5.setCell ⟨eb, 32, none⟩ (.slice none 0 0) = w6 at *
        have hr := HR0.out.kept (HB6.out.block w.heap.size (by rw [HZ0.out]; omega))
        have stz := hr.write (com_one zeros none 0 0 0 [] [] n36)
        rw [setRow_self _ _ _ _ _ hr.blk] at stz
        have HRR := Lib.hid hr
        have HBF : Hid (Below w.heap.size w w6) := Lib.hid (HB0.out.trans (HB6.out.mono HB0.out.size))
        have holz := rowL_len n36 comZ
        clear hr
        go_wp2_with fail
        refine bodyPost_ret (results_row Try.results24 _ _ rfl rfl (HRR.out.var (rcom_agg _) (rcom_size _))) rfl ?_
        rw [HER.out]
        exact ⟨rfl, HBF.out⟩
      | ok ps =>
        obtain ⟨vp, rfl, hP, hb5⟩ := h5
        obtain ⟨ia, ic, rfl⟩ := row_shape_any hP.1
        obtain ⟨n, hn⟩ : ∃ n, ps.length = n := ⟨_, rfl⟩
        have HPN := Lib.hid hn
        have hr5 := HR4.out.kept (hb5.block eb HR4.out.lt)
        have c32 : w5.cell? ⟨eb, 32, none⟩ = some (comF X none 0 0 0 [] [] 32) := hr5.cell (by unfold n36; omega)
        have z32 := hr5.free 32
        have HR6 : Hid (RF (w5.setCell ⟨eb, 32, none⟩ (.slice ia n ic)) eb 46 n36 (comF X ia n ic 0 [] [])) := Lib.hid ((hr5.set (k := 32) (by unfold n36; omega) (.slice ia n ic)).congr (fun j _ => com_set32 X none ia 0 0 n ic 0 [] [] j))
        have HB5 : Hid (Below w1.heap.size w1 w5) := Lib.hid (HB4.out.trans (hb5.mono HB4.out.size))
        have HP5 := Lib.hid hP.1
        have HP5l := Lib.hid hP.2
        have HE4 : Hid (eb < w4.heap.size) := Lib.hid HR4.out.lt
        rw [hn] at HP5 ⊢
        have HPL : Hid (∀ q, (Value.slice ia n ic).ownBlock = some q → w4.heap.size ≤ q ∧ q < w5.heap.size) := Lib.hid (fun q hq => World.ownsRow.lt HP5.out q hq)
        have HB6 : Hid (Below w1.heap.size w1 (w5.setCell ⟨eb, 32, none⟩ (.slice ia n ic))) := Lib.hid (HB5.out.setCell (p := ⟨eb, 32, none⟩) HEB.out _)
        have HP6 : Hid ((w5.setCell ⟨eb, 32, none⟩ (.slice ia n ic)).ownsRow w4.heap.size 27 32 (.slice ia n ic) n (idsV ps)) := Lib.hid (row_kept HP5.out (fun q hq => Below.heap_setCell _ _ _ _ (by have := (HPL.out q hq).1; have := HE4.out; simp; omega)))
        have HN8 : Hid (n ≤ 8) := Lib.hid (by rw [← hn]; exact (namesR_ok HN1.out).2.2.1)
        clear hb5 hr5 hP hn
        go_upto_region 8 with fail
        clear c32 z32
        generalize w5.setCell ⟨eb, 32, none⟩ (.slice ia n ic) = w6 at *
        have c32 : w6.cell? ⟨eb, 32, none⟩ = some (.slice ia n ic) := HR6.out.cell (k := 32) (by unfold n36; omega)
        have hids := own_ids (I := ps) (v := .slice ia n ic) (B := w4.heap.size) (w := w6) (by rw [HPN.out]; exact HP6.out) HP5l.out
        have HRS := Lib.hid (drising_any _ _ ps w6 (fun q hq => hq.2) hids (by rw [HPN.out]; have := HN8.out; omega))
        obtain ⟨rb, hrb⟩ : ∃ b, riseB ps = b := ⟨_, rfl⟩
        rw [hrb] at HRS
        have HRB := Lib.hid hrb
        clear hids hrb
        go_wp2_with fail
        refine HRS.out.mono ?_
        rintro e w7 ⟨rfl, hb7⟩
        have HB7 : Hid (Below w1.heap.size w1 w7) := Lib.hid (HB6.out.trans (hb7.mono HB6.out.size))
        have HR7 := Lib.hid (HR6.out.kept (hb7.block eb HR6.out.lt))
        have HP7 : Hid (w7.ownsRow w4.heap.size 27 32 (.slice ia n ic) n (idsV ps)) := Lib.hid (row_kept HP6.out (fun q hq => hb7.block q (World.ownsRow.lt HP6.out q hq).2))
        clear hb7 c32
        cases rb with
        | false =>
          have HER : Hid (comL vs = .error 92) := Lib.hid (by unfold comL; simp only [andR_of HN0.out, andR_of HN1.out]; rw [if_pos HRB.out])
          have HBQ : Hid (Below w0.heap.size w0 w7) := Lib.hid (HBT.out w7 HB7.out)
          have hr := HR0.out.kept (HBQ.out.block w.heap.size (by rw [HZ0.out]; omega))
          have stz := hr.write (com_one zeros none 0 0 0 [] [] n36)
          rw [setRow_self _ _ _ _ _ hr.blk] at stz
          have HRR := Lib.hid hr
          have HBF : Hid (Below w.heap.size w w7) := Lib.hid (HB0.out.trans (HBQ.out.mono HB0.out.size))
          have holz := rowL_len n36 comZ
          clear hr
          go_wp2_with fail
          refine bodyPost_ret (results_row Try.results24 _ _ rfl rfl (HRR.out.var (rcom_agg _) (rcom_size _))) rfl ?_
          rw [HER.out]
          exact ⟨rfl, HBF.out⟩
        | true =>
          have HCL : Hid (comL vs = andR (stampR (at0 vs 2)) fun s => andR (textR 64 (at0 vs 3)) fun a => andR (textR 1024 (at0 vs 4)) fun n => .ok ⟨X, ps, s, a, n⟩) := Lib.hid (by unfold comL; simp only [andR_of HN0.out, andR_of HN1.out]; rw [if_neg (by rw [HRB.out]; simp)])
          obtain ⟨k0, k1, k2, k3, k4⟩ := HC2.out w7 HB7.out
          by_cases hk2 : (at0 vs 2).kind = 2
          · have gk : ((at0 vs 2).kind != 2) = false := by rw [hk2]; rfl
            obtain ⟨sr, hsr⟩ : ∃ sr, (at0 vs 2).real = sr := ⟨_, rfl⟩
            have HST : Hid (stampR (at0 vs 2) = .ok sr) := Lib.hid (by unfold stampR; rw [if_neg (show ¬ ((at0 vs 2).kind ≠ 2) from fun z => z hk2), hsr])
            obtain ⟨T3, hT3⟩ : ∃ T, textR 64 (at0 vs 3) = T := ⟨_, rfl⟩
            have HT3 := Lib.hid hT3
            rw [hT3] at HF3
            clear hT3 hk2
            obtain ⟨l0, l1, l2, l3, l4⟩ := HC3.out w7 HB7.out
            go_wp2_with fail
            refine (HF3.out w7 HB7.out).mono ?_
            rintro e w8 ⟨rfl, hb8⟩
            have HB8 : Hid (Below w1.heap.size w1 w8) := Lib.hid (HB7.out.trans (hb8.mono HB7.out.size))
            have HR8 := Lib.hid (HR7.out.kept (hb8.block eb HR7.out.lt))
            have HP8 : Hid (w8.ownsRow w4.heap.size 27 32 (.slice ia n ic) n (idsV ps)) := Lib.hid (row_kept HP7.out (fun q hq => hb8.block q (World.ownsRow.lt HP7.out q hq).2))
            clear hb8 k0 k1 k2 k3 k4 l0 l1 l2 l3 l4 gk
            cases T3 with
            | error c =>
              have HCA : Hid (codA (Except.error c : Except Int (List UInt8)) = c) := Lib.hid rfl
              rw [HCA.out]
              have hc0 : c ≠ 0 := textR_err HT3.out
              have g0 : (c == 0) = false := by rw [beq_eq_false_iff_ne]; exact hc0
              have g1 : (c != 0) = true := by rw [bne_iff_ne]; exact hc0
              clear hc0
              have HER : Hid (comL vs = .error c) := Lib.hid (by rw [HCL.out]; simp only [andR_of HST.out]; rw [HT3.out]; rfl)
              have HBQ : Hid (Below w0.heap.size w0 w8) := Lib.hid (HBT.out w8 HB8.out)
              have hr := HR0.out.kept (HBQ.out.block w.heap.size (by rw [HZ0.out]; omega))
              have stz := hr.write (com_one zeros none 0 0 0 [] [] n36)
              rw [setRow_self _ _ _ _ _ hr.blk] at stz
              have HRR := Lib.hid hr
              have HBF : Hid (Below w.heap.size w w8) := Lib.hid (HB0.out.trans (HBQ.out.mono HB0.out.size))
              have holz := rowL_len n36 comZ
              clear hr
              go_wp2_with fail
              refine bodyPost_ret (results_row Try.results24 _ _ rfl rfl (HRR.out.var (rcom_agg _) (rcom_size _))) rfl ?_
              rw [HER.out]
              exact ⟨rfl, HBF.out⟩
            | ok au =>
              have HCA : Hid (codA (Except.ok au : Except Int (List UInt8)) = 0) := Lib.hid rfl
              rw [HCA.out]
              obtain ⟨T4, hT4⟩ : ∃ T, textR 1024 (at0 vs 4) = T := ⟨_, rfl⟩
              have HT4 := Lib.hid hT4
              rw [hT4] at HF4
              clear hT4
              obtain ⟨l0, l1, l2, l3, l4⟩ := HC4.out w8 HB8.out
              go_wp2_with fail
              refine (HF4.out w8 HB8.out).mono ?_
              rintro e w9 ⟨rfl, hb9⟩
              have HB9 : Hid (Below w1.heap.size w1 w9) := Lib.hid (HB8.out.trans (hb9.mono HB8.out.size))
              have HR9 := Lib.hid (HR8.out.kept (hb9.block eb HR8.out.lt))
              have HP9 : Hid (w9.ownsRow w4.heap.size 27 32 (.slice ia n ic) n (idsV ps)) := Lib.hid (row_kept HP8.out (fun q hq => hb9.block q (World.ownsRow.lt HP8.out q hq).2))
              clear hb9 l0 l1 l2 l3 l4
              cases T4 with
              | error c =>
                have HCA : Hid (codA (Except.error c : Except Int (List UInt8)) = c) := Lib.hid rfl
                rw [HCA.out]
                have hc0 : c ≠ 0 := textR_err HT4.out
                have g0 : (c == 0) = false := by rw [beq_eq_false_iff_ne]; exact hc0
                have g1 : (c != 0) = true := by rw [bne_iff_ne]; exact hc0
                clear hc0
                have HER : Hid (comL vs = .error c) := Lib.hid (by rw [HCL.out]; simp only [andR_of HST.out, andR_of HT3.out]; rw [HT4.out]; rfl)
                have HBQ : Hid (Below w0.heap.size w0 w9) := Lib.hid (HBT.out w9 HB9.out)
                have hr := HR0.out.kept (HBQ.out.block w.heap.size (by rw [HZ0.out]; omega))
                have stz := hr.write (com_one zeros none 0 0 0 [] [] n36)
                rw [setRow_self _ _ _ _ _ hr.blk] at stz
                have HRR := Lib.hid hr
                have HBF : Hid (Below w.heap.size w w9) := Lib.hid (HB0.out.trans (HBQ.out.mono HB0.out.size))
                have holz := rowL_len n36 comZ
                clear hr
                go_wp2_with fail
                refine bodyPost_ret (results_row Try.results24 _ _ rfl rfl (HRR.out.var (rcom_agg _) (rcom_size _))) rfl ?_
                rw [HER.out]
                exact ⟨rfl, HBF.out⟩
              | ok no =>
                have HCA : Hid (codA (Except.ok no : Except Int (List UInt8)) = 0) := Lib.hid rfl
                rw [HCA.out]
                have HER : Hid (comL vs = .ok ⟨X, ps, sr, au, no⟩) := Lib.hid (by rw [HCL.out]; simp only [andR_of HST.out, andR_of HT3.out, andR_of HT4.out])
                obtain ⟨_, _, _, m3, _⟩ := HC2.out w9 HB9.out
                rw [hsr] at m3
                have c33 : w9.cell? ⟨eb, 33, none⟩ = some (.float .f64 0) := HR9.out.cell (k := 33) (by unfold n36; omega)
                have z33 := HR9.out.free 33
                have HRA : Hid (RF (w9.setCell ⟨eb, 33, none⟩ (.float .f64 sr)) eb 46 n36 (comF X ia n ic sr [] [])) := Lib.hid ((HR9.out.set (k := 33) (by unfold n36; omega) (.float .f64 sr)).congr (fun j _ => com_set33 X ia n ic 0 sr [] [] j))
                have HSR : Hid (sr < 18446744073709551616) := Lib.hid (by have := HRL.out; rw [hsr] at this; exact this)
                have HBA : Hid (Below w1.heap.size w1 (w9.setCell ⟨eb, 33, none⟩ (.float .f64 sr))) := Lib.hid (HB9.out.setCell (p := ⟨eb, 33, none⟩) HEB.out _)
                have HPA : Hid ((w9.setCell ⟨eb, 33, none⟩ (.float .f64 sr)).ownsRow w4.heap.size 27 32 (.slice ia n ic) n (idsV ps)) := Lib.hid (row_kept HP9.out (fun q hq => Below.heap_setCell _ _ _ _ (by have := (HPL.out q hq).1; have := HE4.out; simp; omega)))
                clear hsr
                go_upto_region 19 with fail
                clear c33 z33 m3
                generalize w9.setCell ⟨eb, 33, none⟩ (.float .f64 sr) = wa at *
                obtain ⟨_, _, m2, _, _⟩ := HC3.out wa HBA.out
                have hbc := HY3.out wa HBA.out
                rw [(textR_ok HT3.out).2.1] at m2 hbc
                have hcv := bytes_str hbc
                obtain ⟨al, hal⟩ : ∃ al, au.length = al := ⟨_, rfl⟩
                rw [hal] at m2 hcv
                have c34 : wa.cell? ⟨eb, 34, none⟩ = some (.string ⟨#[]⟩) := HRA.out.cell (k := 34) (by unfold n36; omega)
                have z34 := HRA.out.free 34
                have HRB' : Hid (RF (wa.setCell ⟨eb, 34, none⟩ (.string ⟨au.toArray⟩)) eb 46 n36 (comF X ia n ic sr au [])) := Lib.hid ((HRA.out.set (k := 34) (by unfold n36; omega) (.string ⟨au.toArray⟩)).congr (fun j hj => com_set34 X ia n ic sr [] au [] j (by unfold n36 at hj; exact hj)))
                have HBB : Hid (Below w1.heap.size w1 (wa.setCell ⟨eb, 34, none⟩ (.string ⟨au.toArray⟩))) := Lib.hid (HBA.out.setCell (p := ⟨eb, 34, none⟩) HEB.out _)
                have HPB : Hid ((wa.setCell ⟨eb, 34, none⟩ (.string ⟨au.toArray⟩)).ownsRow w4.heap.size 27 32 (.slice ia n ic) n (idsV ps)) := Lib.hid (row_kept HPA.out (fun q hq => Below.heap_setCell _ _ _ _ (by have := (HPL.out q hq).1; have := HE4.out; simp; omega)))
                clear hbc hal
                go_upto_region 20 with fail
                clear c34 z34 m2 hcv
                generalize wa.setCell ⟨eb, 34, none⟩ (.string ⟨au.toArray⟩) = wb at *
                obtain ⟨_, _, m2, _, _⟩ := HC4.out wb HBB.out
                have hbc := HY4.out wb HBB.out
                rw [(textR_ok HT4.out).2.1] at m2 hbc
                have hcv := bytes_str hbc
                obtain ⟨al, hal⟩ : ∃ al, no.length = al := ⟨_, rfl⟩
                rw [hal] at m2 hcv
                have c35 : wb.cell? ⟨eb, 35, none⟩ = some (.string ⟨#[]⟩) := HRB'.out.cell (k := 35) (by unfold n36; omega)
                have z35 := HRB'.out.free 35
                have HRC : Hid (RF (wb.setCell ⟨eb, 35, none⟩ (.string ⟨no.toArray⟩)) eb 46 n36 (comF X ia n ic sr au no)) := Lib.hid ((HRB'.out.set (k := 35) (by unfold n36; omega) (.string ⟨no.toArray⟩)).congr (fun j hj => com_set35 X ia n ic sr au [] no j (by unfold n36 at hj; exact hj)))
                have HBC : Hid (Below w1.heap.size w1 (wb.setCell ⟨eb, 35, none⟩ (.string ⟨no.toArray⟩))) := Lib.hid (HBB.out.setCell (p := ⟨eb, 35, none⟩) HEB.out _)
                have HPC : Hid ((wb.setCell ⟨eb, 35, none⟩ (.string ⟨no.toArray⟩)).ownsRow w4.heap.size 27 32 (.slice ia n ic) n (idsV ps)) := Lib.hid (row_kept HPB.out (fun q hq => Below.heap_setCell _ _ _ _ (by have := (HPL.out q hq).1; have := HE4.out; simp; omega)))
                clear hbc hal
                go_upto_region 21 with fail
                clear c35 z35 m2 hcv
                generalize wb.setCell ⟨eb, 35, none⟩ (.string ⟨no.toArray⟩) = wc at *
                obtain ⟨G, hG⟩ : ∃ G : Nat → Value, G = comF X ia n ic sr au no := ⟨_, rfl⟩
                have h1 : OneC n36 G := by rw [hG]; exact com_one _ _ _ _ _ _ _ _
                have HG := Lib.hid hG
                rw [← hG] at HRC
                have hrc := HRC.out
                have lw := hrc.cells
                have hrz := HR0.out.kept ((HBT.out wc HBC.out).block w.heap.size (by rw [HZ0.out]; omega))
                have stx := hrz.write h1
                have HRX := Lib.hid (hrz.put G)
                have hol := rowL_len n36 G
                have HBF : Hid (Below w.heap.size w (wc.setRow w.heap.size (rowL n36 G).toArray)) := Lib.hid (below_setRow (HB0.out.trans ((HBT.out wc HBC.out).mono HB0.out.size)) (Nat.le_refl _) _)
                have HPF : Hid ((wc.setRow w.heap.size (rowL n36 G).toArray).ownsRow w.heap.size 27 32 (.slice ia n ic) n (idsV ps)) := Lib.hid (by
                  have h4 : w0.heap.size ≤ w4.heap.size := (HBT.out w4 HB4.out).size
                  rw [HZ0.out] at h4
                  exact row_kept (own_base HPC.out (by omega)) (fun q hq => setRow_other _ _ _ _ (by have := (HPL.out q hq).1; omega)))
                clear hrc hrz hG h1
                go_wp2_with fail
                refine bodyPost_ret (results_row Try.results24 _ _ rfl rfl (HRX.out.var (rcom_agg _) (rcom_size _))) rfl ?_
                rw [HER.out]
                refine ⟨_, rfl, ⟨ia, ic, by rw [HPN.out, HG.out], ⟨?_, HP5l.out⟩, HX.out, HSR.out⟩, HBF.out⟩
                rw [HPN.out]; exact HPF.out
          · have gk : ((at0 vs 2).kind != 2) = true := by rw [bne_iff_ne]; exact hk2
            have HER : Hid (comL vs = .error 91) := Lib.hid (by rw [HCL.out]; unfold stampR; rw [if_pos hk2]; rfl)
            have HBQ : Hid (Below w0.heap.size w0 w7) := Lib.hid (HBT.out w7 HB7.out)
            clear hk2
            have hr := HR0.out.kept (HBQ.out.block w.heap.size (by rw [HZ0.out]; omega))
            have stz := hr.write (com_one zeros none 0 0 0 [] [] n36)
            rw [setRow_self _ _ _ _ _ hr.blk] at stz
            have HRR := Lib.hid hr
            have HBF : Hid (Below w.heap.size w w7) := Lib.hid (HB0.out.trans (HBQ.out.mono HB0.out.size))
            have holz := rowL_len n36 comZ
            clear hr
            go_wp2_with fail
            refine bodyPost_ret (results_row Try.results24 _ _ rfl rfl (HRR.out.var (rcom_agg _) (rcom_size _))) rfl ?_
            rw [HER.out]
            exact ⟨rfl, HBF.out⟩
end Go.Proofs.Ytdolonkeanlaoaa
