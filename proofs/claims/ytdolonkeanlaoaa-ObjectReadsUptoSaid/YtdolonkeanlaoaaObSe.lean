/- The walks of the reference's GetChunk, GetBlob. The walk of the reference's GetTree. -/
import Derived.Test.YtdolonkeanlaoaaObSc
namespace Go.Proofs.Ytdolonkeanlaoaa
open Go.RowKit
attribute [local simp high] id_size id_zero

set_option maxRecDepth 100000 in
set_option maxHeartbeats 2000000 in
theorem dgchunk_any (s : List UInt8) (w : World) (hm : s.length ≤ 281474976710656) :
    Calls Try.prog 18 #[.string ⟨s.toArray⟩] w (FaceR (fun _ v b => v = .string ⟨b.toArray⟩) (.string ⟨#[]⟩) w (chunkR s)) := by
  have HO := Lib.hid (dopen_any s 1 1 w hm (by omega) (by omega) (by omega))
  unfold chunkR
  clear hm
  cases hd : fieldsR s 1 1 with
  | error c =>
    rw [hd] at HO
    rw [andR_bad rfl]
    have hc0 : c ≠ 0 := fields_err hd
    have g0 : (c == 0) = false := by rw [beq_eq_false_iff_ne]; exact hc0
    have g1 : (c != 0) = true := by rw [bne_iff_ne]; exact hc0
    clear hd hc0
    go_enter Try.func18, Try.ntmps18
    go_wp2_with fail
    refine HO.out.mono ?_
    rintro e w1 ⟨rfl, hb1⟩
    have HB := Lib.hid hb1
    clear hb1
    go_wp2_with fail
    go_ret2
    exact ⟨rfl, HB.out⟩
  | ok vs =>
    rw [hd] at HO
    rw [andR_of rfl]
    obtain ⟨xx, hdx, hfx⟩ := andR_ok hd
    have HLEN := Lib.hid (fieldsV_ok hfx).2.1
    clear hd hdx hfx
    go_enter Try.func18, Try.ntmps18
    go_wp2_with fail
    refine HO.out.mono ?_
    rintro e w1 ⟨vl, rfl, hL, hb1⟩
    obtain ⟨la, lc, rfl⟩ := ListS.shape hL
    rw [HLEN.out] at hL ⊢
    obtain ⟨g, o, a1, c1, a2, c2, rfl, hg, hlc, hcm, ⟨e0, e1, e2, e3, e4⟩, hx⟩ := hL.el HLEN.out (j := 0) (by omega)
    simp only [Nat.zero_mul, Nat.add_zero] at e0 e1 e2 e3 e4
    have HT := Lib.hid (dtext_any (NewS w w1) 14 262144 _ _ w1 hx)
    have HBC := Lib.hid hx.bytes
    have HB1 := Lib.hid hb1
    have HG := Lib.hid hg
    have HE2 := Lib.hid e2
    clear hL hb1 hx hcm hg hlc
    obtain ⟨TT, hTT⟩ : ∃ T, textR 262144 (at0 vs 0) = T := ⟨_, rfl⟩
    rw [hTT] at HT
    have HTT := Lib.hid hTT
    clear hTT
    go_wp2_with fail
    refine HT.out.mono ?_
    rintro e w2 ⟨rfl, hb2⟩
    have HB2 := Lib.hid (HB1.out.trans (hb2.mono HB1.out.size))
    cases TT with
    | error c =>
      have hc0 : c ≠ 0 := textR_err HTT.out
      have HCA : Hid (codA (Except.error c : Except Int (List UInt8)) = c) := Lib.hid rfl
      rw [HCA.out]
      have g1 : (c != 0) = true := by rw [bne_iff_ne]; exact hc0
      clear hc0 hb2 e0 e1 e2 e3 e4
      go_wp2_with fail
      go_ret2
      rw [HTT.out]
      exact ⟨rfl, HB2.out⟩
    | ok b =>
      have HCA : Hid (codA (Except.ok b : Except Int (List UInt8)) = 0) := Lib.hid rfl
      rw [HCA.out]
      have hbb := (textR_ok HTT.out).2.1
      have hbc := HBC.out.kept (S' := NewS w w1) (w' := w2) (fun q hq => ⟨hq, hb2.block q hq.2⟩)
      rw [hbb] at hbc
      have hcv := bytes_str hbc
      have c2b : w2.cell? ⟨g, o + 2, none⟩ = some (.slice a1 (at0 vs 0).bytes.length c1) := (World.cell?_of_block (w := w1) (hb2.block g HG.out.2)).trans HE2.out
      rw [hbb] at c2b
      obtain ⟨bl, hbl⟩ : ∃ bl, b.length = bl := ⟨_, rfl⟩
      rw [hbl] at c2b hcv
      clear hb2 hbb hbc e0 e1 e2 e3 e4 hbl
      go_wp2_with fail
      go_ret2
      rw [HTT.out]
      exact ⟨_, rfl, rfl, HB2.out⟩
theorem set2_cells {w : World} {b : Nat} {x y : Value} {t : TypeId} (h : w.heap[b]? = some (.cells #[x, y] t (0, 0))) (u v : Value) : ((w.setCell ⟨b, 0, none⟩ u).setCell ⟨b, 1, none⟩ v).cell? ⟨b, 0, none⟩ = some u ∧ ((w.setCell ⟨b, 0, none⟩ u).setCell ⟨b, 1, none⟩ v).cell? ⟨b, 1, none⟩ = some v := by
  have h1 : (w.setCell ⟨b, 0, none⟩ u).heap[b]? = some (.cells #[u, y] t (0, 0)) := (heap_setCell_same w b 0 _ _ _ h).trans rfl
  have h2 : ((w.setCell ⟨b, 0, none⟩ u).setCell ⟨b, 1, none⟩ v).heap[b]? = some (.cells #[u, v] t (0, 0)) := (heap_setCell_same (w.setCell ⟨b, 0, none⟩ u) b 1 _ _ _ h1).trans rfl
  exact ⟨(cell_of_row _ _ _ _ _ _ h2).trans rfl, (cell_of_row _ _ _ _ _ _ h2).trans rfl⟩
set_option maxRecDepth 100000 in
set_option maxHeartbeats 4000000 in
theorem dgblob_any (s : List UInt8) (w : World) (hm : s.length ≤ 281474976710656) :
    Calls Try.prog 20 #[.string ⟨s.toArray⟩] w (FaceR (BlobV w) (.agg #[.slice none 0 0, .int .i64 0]) w (blobR s)) := by
  have hst := run_storeF
  obtain ⟨w0, hw0⟩ : ∃ w0, w0 = w.alloc (.cells #[.slice none 0 0, .int .i64 0] 38) := ⟨_, rfl⟩
  have HB0 : Hid (Below w.heap.size w w0) := Lib.hid (by rw [hw0]; exact (Below.refl _ w).alloc (Nat.le_refl _) _)
  have HZ0 : Hid (w0.heap.size = w.heap.size + 1) := Lib.hid (by rw [hw0]; simp)
  have HK0 : Hid (w0.heap[w.heap.size]? = some (.cells #[.slice none 0 0, .int .i64 0] 38 (0, 0))) := Lib.hid (by rw [hw0]; exact new_five w _ _)
  have HO := Lib.hid (dopen_any s 2 2 w0 hm (by omega) (by omega) (by omega))
  have HW0 := Lib.hid hw0
  unfold blobR
  clear hm hw0
  cases hd : fieldsR s 2 2 with
  | error c =>
    rw [hd] at HO
    rw [andR_bad rfl]
    have hc0 : c ≠ 0 := fields_err hd
    have g1 : (c != 0) = true := by rw [bne_iff_ne]; exact hc0
    clear hd hc0
    go_enter Try.func20, Try.ntmps20
    go_upto_region 1 with fail
    rw [← HW0.out]
    go_wp2_with fail
    refine HO.out.mono ?_
    rintro e w1 ⟨rfl, hb1⟩
    have HB := Lib.hid (HB0.out.trans (hb1.mono HB0.out.size))
    have hk := (hb1.block w.heap.size (by rw [HZ0.out]; omega)).trans HK0.out
    obtain ⟨⟨c0, c1⟩, z0, z1⟩ := two_new _ _ _ hk
    obtain ⟨r0, r1⟩ := set2_cells hk (.slice none 0 0) (.int .i64 0)
    clear hb1 hk
    go_wp2_with fail
    refine bodyPost_ret (v := .tuple #[.agg #[.slice none 0 0, .int .i64 0], .int .i64 c]) (by simp [results, Try.results20, go_sem, r0, r1]) rfl ⟨rfl, ?_⟩
    exact (HB.out.setCell (p := ⟨w.heap.size, 0, none⟩) (Nat.le_refl _) _).setCell (p := ⟨w.heap.size, 1, none⟩) (Nat.le_refl _) _
  | ok vs =>
    rw [hd] at HO
    rw [andR_of rfl]
    obtain ⟨xx, hdx, hfx⟩ := andR_ok hd
    have HLEN := Lib.hid (fieldsV_ok hfx).2.1
    clear hd hdx hfx
    unfold blobL
    go_enter Try.func20, Try.ntmps20
    go_upto_region 1 with fail
    rw [← HW0.out]
    go_wp2_with fail
    refine HO.out.mono ?_
    rintro e w1 ⟨vl, rfl, hL, hb1⟩
    obtain ⟨la, lc, rfl⟩ := ListS.shape hL
    rw [HLEN.out] at hL ⊢
    obtain ⟨g, o, a1, c1, a2, c2, rfl, hg, hlc, hcm, ⟨e0, e1, e2, e3, e4⟩, hx⟩ := hL.el HLEN.out (j := 0) (by omega)
    obtain ⟨g', o', a1', c1', a2', c2', heq, _, _, _, ⟨f0, f1, f2, f3, f4⟩, hx'⟩ := hL.el HLEN.out (j := 1) (by omega)
    injection heq with heq
    injection heq with heq1 heq2
    subst heq1 heq2
    simp only [Nat.zero_mul, Nat.add_zero, Nat.one_mul] at e0 e1 e2 e3 e4 f0 f1 f2 f3 f4
    have HN := Lib.hid (dids_any (NewS w0 w1) 13 4096 _ _ w1 (fun q hq => hq.2) hx)
    have HF : Hid (∀ W, Below w1.heap.size w1 W → W.cell? ⟨g, o + 5, none⟩ = some (.int .i64 (at0 vs 1).kind) ∧ W.cell? ⟨g, o + 5 + 1, none⟩ = some (.int .u64 (at0 vs 1).num)) := Lib.hid (fun W hW => ⟨(World.cell?_of_block (w := w1) (hW.block g hg.2)).trans f0, (World.cell?_of_block (w := w1) (hW.block g hg.2)).trans f1⟩)
    have HB1 := Lib.hid (HB0.out.trans (hb1.mono HB0.out.size))
    have HK1 := Lib.hid ((hb1.block w.heap.size (by rw [HZ0.out]; omega)).trans HK0.out)
    have HZ1 : Hid (w.heap.size + 1 ≤ w1.heap.size) := Lib.hid (by have := hb1.size; rw [HZ0.out] at this; exact this)
    clear hL hb1 hx hx' hcm hg hlc f0 f1 f2 f3 f4
    obtain ⟨NN, hNN⟩ : ∃ N, namesR 4096 (at0 vs 0) = N := ⟨_, rfl⟩
    rw [hNN] at HN
    have HNN := Lib.hid hNN
    clear hNN
    go_wp2_with fail
    refine HN.out.mono ?_
    intro e w2 h2
    clear e0 e1 e2 e3 e4
    cases NN with
    | error c =>
      obtain ⟨rfl, hb2⟩ := h2
      have hc0 : c ≠ 0 := names_err HNN.out
      have g0 : (c == 0) = false := by rw [beq_eq_false_iff_ne]; exact hc0
      have g1 : (c != 0) = true := by rw [bne_iff_ne]; exact hc0
      have HB := Lib.hid (HB1.out.trans (hb2.mono HB1.out.size))
      have hk := (hb2.block w.heap.size (by have := HZ1.out; omega)).trans HK1.out
      obtain ⟨⟨k0, k1⟩, z0, z1⟩ := two_new _ _ _ hk
      obtain ⟨r0, r1⟩ := set2_cells hk (.slice none 0 0) (.int .i64 0)
      clear hb2 hk hc0
      go_wp2_with fail
      refine bodyPost_ret (v := .tuple #[.agg #[.slice none 0 0, .int .i64 0], .int .i64 c]) (by simp [results, Try.results20, go_sem, r0, r1]) rfl ?_
      rw [HNN.out]
      exact ⟨rfl, (HB.out.setCell (p := ⟨w.heap.size, 0, none⟩) (Nat.le_refl _) _).setCell (p := ⟨w.heap.size, 1, none⟩) (Nat.le_refl _) _⟩
    | ok ids =>
      obtain ⟨vi, rfl, hI, hb2⟩ := h2
      have HB := Lib.hid (HB1.out.trans (hb2.mono HB1.out.size))
      have hk := (hb2.block w.heap.size (by have := HZ1.out; omega)).trans HK1.out
      obtain ⟨⟨k0, k1⟩, z0, z1⟩ := two_new _ _ _ hk
      obtain ⟨q0, q1⟩ := HF.out w2 hb2
      have HI := Lib.hid hI
      obtain ⟨ia, ic, rfl⟩ := row_shape_any hI.1
      have HK := Lib.hid hk
      obtain ⟨il, hil⟩ : ∃ il, ids.length = il := ⟨_, rfl⟩
      rw [hil] at HI ⊢
      have HIL := Lib.hid hil
      have HEQ : Hid ((andR (namesR 4096 (at0 vs 0)) fun ids => andR (numberR 262144 (at0 vs 1)) fun n => .ok (ids, n)) = andR (numberR 262144 (at0 vs 1)) fun n => .ok (ids, n)) := Lib.hid (by rw [HNN.out]; rfl)
      clear hb2 hk hI hil
      by_cases hk0 : (at0 vs 1).kind = 0
      · have gk : ((at0 vs 1).kind != 0) = false := by rw [hk0]; rfl
        by_cases hbig : 262144 < (at0 vs 1).num
        · have HER : Hid (numberR 262144 (at0 vs 1) = .error 2) := Lib.hid (by unfold numberR; rw [if_neg (show ¬ ((at0 vs 1).kind ≠ 0) from fun z => z hk0), if_pos hbig])
          have gb1 : decide (((at0 vs 1).num : Int) > 262144) = true := decide_eq_true (by omega)
          have gb2 : decide ((262144 : Int) < ((at0 vs 1).num : Int)) = true := decide_eq_true (by omega)
          have gb3 : decide (262144 < (at0 vs 1).num) = true := decide_eq_true hbig
          obtain ⟨r0, r1⟩ := set2_cells HK.out (.slice none 0 0) (.int .i64 0)
          clear hk0 hbig
          go_wp2_with fail
          refine bodyPost_ret (v := .tuple #[.agg #[.slice none 0 0, .int .i64 0], .int .i64 2]) (by simp [results, Try.results20, go_sem, r0, r1]) rfl ?_
          rw [HEQ.out, HER.out]
          exact ⟨rfl, (HB.out.setCell (p := ⟨w.heap.size, 0, none⟩) (Nat.le_refl _) _).setCell (p := ⟨w.heap.size, 1, none⟩) (Nat.le_refl _) _⟩
        · obtain ⟨nm, hnm⟩ : ∃ nm, (at0 vs 1).num = nm := ⟨_, rfl⟩
          have HER : Hid (numberR 262144 (at0 vs 1) = .ok nm) := Lib.hid (by unfold numberR; rw [if_neg (show ¬ ((at0 vs 1).kind ≠ 0) from fun z => z hk0), if_neg hbig, hnm])
          rw [hnm] at q1 hbig
          have gb1 : decide ((nm : Int) > 262144) = false := decide_eq_false (by omega)
          have gb2 : decide ((262144 : Int) < (nm : Int)) = false := decide_eq_false (by omega)
          have gb3 : decide (262144 < nm) = false := decide_eq_false hbig
          have gw : IntKind.i64.wrap (nm : Int) = (nm : Int) := IntWalk.i64_in _ (by omega)
          have HNL : Hid (nm ≤ 262144) := Lib.hid (by omega)
          obtain ⟨r0, r1⟩ := set2_cells HK.out (.slice ia il ic) (.int .i64 nm)
          clear hk0 hbig hnm
          go_wp2_with fail
          refine bodyPost_ret (v := .tuple #[.agg #[.slice ia il ic, .int .i64 nm], .int .i64 0]) (by simp [results, Try.results20, go_sem, r0, r1]) rfl ?_
          rw [HEQ.out, HER.out]
          refine ⟨_, rfl, ⟨_, rfl, ⟨?_, HI.out.2⟩, HNL.out⟩, (HB.out.setCell (p := ⟨w.heap.size, 0, none⟩) (Nat.le_refl _) _).setCell (p := ⟨w.heap.size, 1, none⟩) (Nat.le_refl _) _⟩
          have h1 := HI.out.1
          refine row_kept (own_base (by rw [HIL.out]; rw [HIL.out] at h1; exact h1) (by have := HZ1.out; omega)) (fun q hq => ?_)
          have hq1 := (World.ownsRow.lt h1 q hq).1
          have := HZ1.out
          exact (Below.heap_setCell _ _ _ _ (by simp; omega)).trans (Below.heap_setCell _ _ _ _ (by simp; omega))
      · have HER : Hid (numberR 262144 (at0 vs 1) = .error 91) := Lib.hid (by unfold numberR; rw [if_pos hk0])
        have gk : ((at0 vs 1).kind != 0) = true := by rw [bne_iff_ne]; exact hk0
        obtain ⟨r0, r1⟩ := set2_cells HK.out (.slice none 0 0) (.int .i64 0)
        clear hk0
        go_wp2_with fail
        refine bodyPost_ret (v := .tuple #[.agg #[.slice none 0 0, .int .i64 0], .int .i64 91]) (by simp [results, Try.results20, go_sem, r0, r1]) rfl ?_
        rw [HEQ.out, HER.out]
        exact ⟨rfl, (HB.out.setCell (p := ⟨w.heap.size, 0, none⟩) (Nat.le_refl _) _).setCell (p := ⟨w.heap.size, 1, none⟩) (Nat.le_refl _) _⟩
end Go.Proofs.Ytdolonkeanlaoaa
namespace Go.Proofs.Ytdolonkeanlaoaa
open Go.RowKit
attribute [local simp high] id_size id_zero rent_size rent_zero n32_ne n35_ne

def REntV (w w' : World) (v : Value) (l : List EntN) : Prop := w'.ownsRow w.heap.size 91 35 v l.length (entsV l) ∧ FineE l
set_option maxRecDepth 100000 in
set_option maxHeartbeats 8000000 in
theorem dgtree_any (s : List UInt8) (w : World) (hm : s.length ≤ 281474976710656) :
    Calls Try.prog 22 #[.string ⟨s.toArray⟩] w (FaceR (REntV w) (.slice none 0 0) w (treeR s)) := by
  have hst := run_storeF
  have HO := Lib.hid (dopen_any s 3 1 w hm (by omega) (by omega) (by omega))
  unfold treeR
  clear hm
  cases hd : fieldsR s 3 1 with
  | error c =>
    rw [hd] at HO
    rw [andR_bad rfl]
    have hc0 : c ≠ 0 := fields_err hd
    have g1 : (c != 0) = true := by rw [bne_iff_ne]; exact hc0
    clear hd hc0
    go_enter Try.func22, Try.ntmps22
    go_wp2_with fail
    refine HO.out.mono ?_
    rintro e w1 ⟨rfl, hb1⟩
    have HB := Lib.hid hb1
    clear hb1
    go_wp2_with fail
    go_ret2
    exact ⟨rfl, HB.out⟩
  | ok vs =>
    rw [hd] at HO
    rw [andR_of rfl]
    obtain ⟨xx, hdx, hfx⟩ := andR_ok hd
    have HLEN := Lib.hid (fieldsV_ok hfx).2.1
    clear hd hdx hfx
    unfold treeL
    go_enter Try.func22, Try.ntmps22
    go_wp2_with fail
    refine HO.out.mono ?_
    rintro e w1 ⟨vl, rfl, hL, hb1⟩
    obtain ⟨la, lc, rfl⟩ := ListS.shape hL
    rw [HLEN.out] at hL ⊢
    obtain ⟨g, o, a1, c1, a2, c2, rfl, hg, hlc, hcm, ⟨e0, e1, e2, e3, e4⟩, hx⟩ := hL.el HLEN.out (j := 0) (by omega)
    simp only [Nat.zero_mul, Nat.add_zero] at e0 e1 e2 e3 e4
    obtain ⟨b1, d1, b2, d2, hag, _, _, _, hll, _, hlist⟩ := hx.parts
    have hL7 : ListS (NewS w w1) w1 (ReadsS (NewS w w1) w1 14) (.slice a2 (at0 vs 0).list.length c2) (at0 vs 0).list := by
      injection hag with hag
      have e2 : [Value.int .i64 (at0 vs 0).kind, .int .u64 (at0 vs 0).num, .slice a1 (at0 vs 0).bytes.length c1, .float .f64 (at0 vs 0).real, .slice a2 (at0 vs 0).list.length c2] = [.int .i64 (at0 vs 0).kind, .int .u64 (at0 vs 0).num, .slice b1 (at0 vs 0).bytes.length d1, .float .f64 (at0 vs 0).real, .slice b2 (at0 vs 0).list.length d2] := by injection hag
      injection e2 with _ e2
      injection e2 with _ e2
      injection e2 with _ e2
      injection e2 with _ e2
      injection e2 with e2 _
      rw [e2]; exact hlist
    obtain ⟨L, hLL⟩ : ∃ L, (at0 vs 0).list = L := ⟨_, rfl⟩
    rw [hLL] at hL7 e4 hll
    obtain ⟨m, hmm⟩ : ∃ m, L.length = m := ⟨_, rfl⟩
    rw [hmm] at hL7 e4 hll
    have HM := Lib.hid hmm
    have HL := Lib.hid hL7
    have HC : Hid (∀ W, Below w1.heap.size w1 W → W.cell? ⟨g, o, none⟩ = some (.int .i64 (at0 vs 0).kind) ∧ W.cell? ⟨g, o + 4, none⟩ = some (.slice a2 m c2)) := Lib.hid (fun W hW => ⟨(World.cell?_of_block (w := w1) (hW.block g hg.2)).trans e0, (World.cell?_of_block (w := w1) (hW.block g hg.2)).trans e4⟩)
    have HB1 := Lib.hid hb1
    have HEL : Hid (at0 vs 0 = at0 vs 0 ∧ (at0 vs 0).list = L) := Lib.hid ⟨rfl, hLL⟩
    clear hL hb1 hx hcm hg hlc hag hlist hL7 e1 e2 e3 hLL hmm
    by_cases hk : (at0 vs 0).kind = 3
    · have gk : ((at0 vs 0).kind != 3) = false := by rw [hk]; rfl
      by_cases hbig : 1024 < m
      · have HER : Hid (listR 1024 (at0 vs 0) = .error 2) := Lib.hid (by unfold listR; rw [if_neg (show ¬ ((at0 vs 0).kind ≠ 3) from fun z => z hk), HEL.out.2, HM.out, if_pos hbig])
        clear hk
        go_wp2_with fail
        go_ret2
        rw [HER.out]
        exact ⟨rfl, HB1.out⟩
      · obtain ⟨R, hR⟩ : ∃ R, eachR entryR L = R := ⟨_, rfl⟩
        have HPO : Hid ((andR (listR 1024 (at0 vs 0)) fun es => andR (eachR entryR es) fun out => if orderE out ≠ 0 then .error (orderE out) else .ok out) = andR R fun out => if orderE out ≠ 0 then .error (orderE out) else .ok out) := Lib.hid (by
          unfold listR
          rw [if_neg (show ¬ ((at0 vs 0).kind ≠ 3) from fun z => z hk), HEL.out.2, HM.out, if_neg hbig, ← hR]; rfl)
        have HR := Lib.hid hR
        have hm24 : m ≤ 1024 := by omega
        clear hk hR hbig hll
        go_wp2_with fail
        clear e0 e4
        go_loopw [6, 7] (fun v i wr => ∃ (k : Nat) (I : List EntN), k ≤ m ∧ i = .int .i64 (k : Int) ∧ Hid (eachR entryR (L.take k) = .ok I) ∧ Hid (wr.ownsRow w1.heap.size 91 35 v I.length (entsV I)) ∧ Hid (FineE I) ∧ Hid (Below w1.heap.size w1 wr))
          (fun _ i _ => m - (intOf i).toNat)
        case atStart => exact ⟨0, [], Nat.zero_le _, rfl, Lib.hid rfl, Lib.hid (World.ownsRow_nil _ _ _ _), Lib.hid (fun y hy => by simp at hy), Lib.hid (Below.refl _ _)⟩
        case round =>
          obtain ⟨k, I, hk, rfl, hE, hO, hI, hB⟩ := hrel
          obtain ⟨e0, e4⟩ := HC.out wr hB.out
          have HB0 : Hid (Below w.heap.size w wr) := Lib.hid (HB1.out.trans (hB.out.mono HB1.out.size))
          by_cases hlt : k < m
          · obtain ⟨y, hy⟩ : ∃ y, L[k]? = some y := ⟨_, List.getElem?_eq_getElem (by rw [HM.out]; exact hlt)⟩
            have hLw := HL.out
            rw [← HM.out] at hLw
            have hLk := hLw.kept (by rw [HM.out]; omega) (S' := NewS w w1) (w' := wr) (fun q hq => ⟨hq, hB.out.block q hq.2⟩)
            obtain ⟨g', o', b1, d1, b2, d2, rfl, hg', hlc', hcm', ⟨y0, y1, y2, y3, y4⟩, hRy⟩ := hLk.el hy
            obtain ⟨n1, n2⟩ := eachR_next hE.out hy
            have HN1 := Lib.hid n1
            have HN2 := Lib.hid n2
            have HCE := Lib.hid (dentry_any (NewS w w1) 12 (.agg #[.int .i64 y.kind, .int .u64 y.num, .slice b1 y.bytes.length d1, .float .f64 y.real, .slice b2 y.list.length d2]) y wr (fun q hq => by have := hq.2; have := hB.out.size; omega) hRy)
            clear hLw hLk hRy hy n1 n2 hcm' hlc'
            obtain ⟨yb, hyb⟩ : ∃ q, y.bytes.length = q := ⟨_, rfl⟩
            obtain ⟨yl, hyl⟩ : ∃ q, y.list.length = q := ⟨_, rfl⟩
            rw [hyb] at y2 HCE
            rw [hyl] at y4 HCE
            obtain ⟨N, hN⟩ : ∃ N, entryR y = N := ⟨_, rfl⟩
            have HNE := Lib.hid hN
            rw [hN] at HCE HN1 HN2
            clear hN hyb hyl
            cases N with
            | error c =>
              have hR : Hid (R = .error c) := Lib.hid (by rw [← HR.out]; exact HN2.out c rfl)
              have hc0 : c ≠ 0 := entry_err HNE.out
              have g9 : (c != 0) = true := by rw [bne_iff_ne]; exact hc0
              clear hc0 HN1 HN2
              go_wp2_with fail
              refine HCE.out.mono ?_
              rintro e w2 ⟨rfl, hb2⟩
              have HB2 := Lib.hid (HB0.out.trans (hb2.mono HB0.out.size))
              have HB3 : Hid (Below w.heap.size w (w2.alloc (.cells (rowL n35 (entF noEnt)).toArray 91))) := Lib.hid (HB2.out.alloc HB2.out.size _)
              have zl := rowL_len n35 (entF noEnt)
              have st0 := (RF.new w2 91 n35 (entF noEnt)).write (ent_one noEnt n35)
              rw [setRow_self _ _ _ _ _ (RF.new w2 91 n35 (entF noEnt)).blk] at st0
              clear hb2
              go_wp2_with fail
              go_ret2
              rw [HPO.out, hR.out]
              exact ⟨rfl, HB3.out⟩
            | ok X =>
              have HE1 : Hid (eachR entryR (L.take (k + 1)) = .ok (I ++ [X])) := Lib.hid (HN1.out X rfl)
              go_wp2_with fail
              refine HCE.out.mono ?_
              rintro e w2 ⟨vX, rfl, ⟨rfl, hX, hXs, hXn⟩, hb2⟩
              have r2 := RF.new w2 91 n35 (entF noEnt)
              have st0 := r2.write (ent_one X n35)
              have r3 := r2.put (entF X)
              have lc := r3.cells
              have HB2 : Hid (Below wr.heap.size wr ((w2.alloc (.cells (rowL n35 (entF noEnt)).toArray 91)).setRow w2.heap.size (rowL n35 (entF X)).toArray)) := Lib.hid (below_setRow (hb2.alloc hb2.size _) hb2.size _)
              have hol := rowL_len n35 (entF X)
              have holz := rowL_len n35 (entF noEnt)
              have hbi := build_rowN n35 (entF noEnt) (entF X)
              have hbl := build_rowl n35 (entF noEnt) (entF X)
              have hnl : (16777216 < n35) = False := by unfold n35; simp
              obtain ⟨i0, hi, hz0, hz1, hz2q⟩ := info_parts rent_info
              have HI5 : Hid (FineE (I ++ [X])) := Lib.hid (fun z hz => by
                rcases List.mem_append.1 hz with hz | hz
                · exact hI.out z hz
                · rw [List.mem_singleton] at hz; rw [hz]; exact ⟨hXn, hX, hXs⟩)
              have HSRC : Hid (∀ W : World, Src Try.prog 35 42 (.slice (some ⟨W.heap.size, 0, none⟩) 1 1) 1 (rowL n35 (entF X)) (W.alloc (.cells (rowL n35 (entF X)).toArray 91))) := Lib.hid (fun W => rsrcE_one W _)
              have HEV : Hid (entsV (I ++ [X]) = entsV I ++ rowL n35 (entF X)) := Lib.hid (entsV_snoc I X)
              clear hb2 r2 r3 hX hXs hXn
              generalize rowL n35 (entF X) = RX at *
              go_upto_region 13 with fail
              clear st0
              generalize (w2.alloc (.cells (rowL n35 (entF noEnt)).toArray 91)).setRow w2.heap.size RX.toArray = w3 at *
              have HO2 := Lib.hid (row_kept (w' := w3) hO.out (fun q hq => HB2.out.block q (World.ownsRow.lt hO.out q hq).2))
              have hil : I.length ≤ 1048576 := by have := eachR_len hE.out; rw [List.length_take, HM.out] at this; omega
              have HIL := Lib.hid hil
              clear hil
              go_wp2_with (at_builtin; refine wpList_own_src _ rfl _ _ 42 42 rfl w1.heap.size 91 i0 (.agg (rowL n35 (entF noEnt)).toArray) 35 64 Try.underlying42 hi hz0 hz1 hz2q rfl (by decide) _ _ _ rfl (World.ownsRow.alloc HO2.out _) _ 1 RX rfl (HSRC.out _) ?c3 ?c4 ?c5 ?_)
              case c3 => have := HIL.out; unfold maxLen; omega
              case c4 => have := HIL.out; omega
              case c5 => have := hB.out.size; have := HB2.out.size; simp; omega
              intro v3 w4 hown3 hg3
              have hB3 : Hid (Below w1.heap.size w1 w4) := Lib.hid (((hB.out.trans (HB2.out.mono hB.out.size)).alloc (by have := hB.out.size; have := HB2.out.size; omega) (.cells RX.toArray 91)).grown hg3.gb (by have := hB.out.size; have := HB2.out.size; simp; omega) (fun q hq => (World.ownsRow.lt (World.ownsRow.alloc HO2.out (.cells RX.toArray 91)) q hq).1))
              have hO3 : Hid (w4.ownsRow w1.heap.size 91 35 v3 (I ++ [X]).length (entsV (I ++ [X]))) := Lib.hid (by rw [HEV.out, List.length_append]; exact hown3)
              clear hown3 hg3 lc hbi hbl hol holz hnl
              go_wp2
              go_roundw
              case rel => exact ⟨k + 1, I ++ [X], by omega, by go_num, HE1, hO3, HI5, hB3⟩
              case measure => simp [intOf]; omega
          · have hR : Hid (R = .ok I) := Lib.hid (by
              have := hE.out
              rw [List.take_of_length_le (by rw [HM.out]; omega)] at this
              rw [← HR.out]; exact this)
            have hIle : I.length ≤ 1024 := by have := eachR_len hE.out; rw [List.length_take, HM.out] at this; omega
            have hents := rown_ents hO.out
            obtain ⟨ea, ec, hev⟩ := RowsC.shape hents
            have HOW : Hid (REntV w wr _ I) := Lib.hid ⟨own_base hO.out HB1.out.size, hI.out⟩
            rw [hev] at HOW hents ⊢
            have HCE := Lib.hid (dordered_any _ _ I wr (fun q hq => hq.2) hents (fun e he => by have := (hI.out e he).1; omega) (by omega))
            rw [if_neg (show ¬ 1024 < I.length by omega)] at HCE
            have HRO : Hid ((andR R fun out => if orderE out ≠ 0 then .error (orderE out) else .ok out) = if orderE I ≠ 0 then .error (orderE I) else .ok I) := Lib.hid (by rw [hR.out]; rfl)
            obtain ⟨il, hil⟩ : ∃ il, I.length = il := ⟨_, rfl⟩
            rw [hil] at HOW HCE ⊢
            clear hents hev hIle hil
            generalize orderE I = oe at *
            go_wp2_with fail
            refine HCE.out.mono ?_
            rintro e w5 ⟨rfl, hb5⟩
            have HB5 := Lib.hid (HB0.out.trans (hb5.mono HB0.out.size))
            have HOW5 : Hid (REntV w w5 (.slice ea il ec) I) := Lib.hid ⟨row_kept HOW.out.1 (fun q hq => hb5.block q (World.ownsRow.lt HOW.out.1 q hq).2), HOW.out.2⟩
            clear hb5
            by_cases hoe : oe = 0
            · subst hoe
              go_wp2_with fail
              go_ret2
              rw [HPO.out, HRO.out, if_neg (by simp)]
              exact ⟨_, rfl, HOW5.out, HB5.out⟩
            · have g9 : (oe != 0) = true := by rw [bne_iff_ne]; exact hoe
              have HOE := Lib.hid hoe
              clear hoe
              go_wp2_with fail
              go_ret2
              rw [HPO.out, HRO.out, if_pos HOE.out]
              exact ⟨rfl, HB5.out⟩
    · have HER : Hid (listR 1024 (at0 vs 0) = .error 91) := Lib.hid (by unfold listR; rw [if_pos hk])
      have gk : ((at0 vs 0).kind != 3) = true := by rw [bne_iff_ne]; exact hk
      clear hk
      go_wp2_with fail
      go_ret2
      rw [HER.out]
      exact ⟨rfl, HB1.out⟩
end Go.Proofs.Ytdolonkeanlaoaa
