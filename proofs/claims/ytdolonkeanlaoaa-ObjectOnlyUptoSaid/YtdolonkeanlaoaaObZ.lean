/- The law ObjectOnly. -/
import Derived.Test.YtdolonkeanlaoaaObY
namespace Go.Proofs.Ytdolonkeanlaoaa
open Go.RowKit
attribute [local simp high] id_size id_zero ent_size ent_zero com_size com_zero n32_ne n35_ne n36_ne

theorem only_kinds {q : List UInt8} {a b : Nat} (h : kindR q = .ok a) (k : kindR q = .ok b) : a = b := by rw [h] at k; injection k
theorem not_chunk {q : List UInt8} {k : Nat} (h : kindR q = .ok k) (hk : k ≠ 1) : ∃ c, chunkR q = .error c := by
  cases hc : chunkR q with
  | error c => exact ⟨c, rfl⟩
  | ok x => exact absurd (only_kinds h (chunk_kind hc)) hk
theorem not_blob {q : List UInt8} {k : Nat} (h : kindR q = .ok k) (hk : k ≠ 2) : ∃ c, blobR q = .error c := by
  cases hc : blobR q with
  | error c => exact ⟨c, rfl⟩
  | ok x => exact absurd (only_kinds h (blob_kind hc)) hk
theorem not_tree {q : List UInt8} {k : Nat} (h : kindR q = .ok k) (hk : k ≠ 3) : ∃ c, treeR q = .error c := by
  cases hc : treeR q with
  | error c => exact ⟨c, rfl⟩
  | ok x => exact absurd (only_kinds h (tree_kind hc)) hk
theorem not_com {q : List UInt8} {k : Nat} (h : kindR q = .ok k) (hk : k ≠ 4) : ∃ c, comR q = .error c := by
  cases hc : comR q with
  | error c => exact ⟨c, rfl⟩
  | ok x => exact absurd (only_kinds h (com_kind hc)) hk
theorem links_chunk {q c : List UInt8} (h : chunkR q = .ok c) : linksR q = .ok [] := by
  unfold linksR; rw [chunk_kind h]; simp only [andR, if_true]; rw [h]
theorem links_blob {q : List UInt8} {x : List (List UInt8) × Nat} (h : blobR q = .ok x) : linksR q = .ok x.1 := by
  unfold linksR; rw [blob_kind h]; simp only [andR]; rw [if_neg (by omega), if_pos trivial, h]
theorem links_tree {q : List UInt8} {l : List EntN} (h : treeR q = .ok l) : linksR q = .ok (l.map EntN.id) := by
  unfold linksR; rw [tree_kind h]; simp only [andR]; rw [if_neg (by omega), if_neg (by omega), if_pos trivial, h]
theorem links_com {q : List UInt8} {x : ComN} (h : comR q = .ok x) : linksR q = .ok (x.tree :: x.parents) := by
  unfold linksR; rw [com_kind h]; simp only [andR]; rw [if_neg (by omega), if_neg (by omega), if_neg (by omega), h]
theorem links_none {q : List UInt8} {a b c d : Int} (h1 : chunkR q = .error a) (h2 : blobR q = .error b) (h3 : treeR q = .error c) (h4 : comR q = .error d) : ∃ e, linksR q = .error e ∧ e ≠ 0 := by
  unfold linksR
  cases hk : kindR q with
  | error e => exact ⟨e, rfl, kind_err hk⟩
  | ok k =>
    simp only [andR, h1, h2, h3, h4]
    split
    · exact ⟨a, rfl, chunk_err h1⟩
    split
    · exact ⟨b, rfl, blob_err h2⟩
    split
    · exact ⟨c, rfl, tree_err h3⟩
    · exact ⟨d, rfl, com_err h4⟩
theorem blob_len {q : List UInt8} {x : List (List UInt8) × Nat} (h : blobR q = .ok x) : x.1.length ≤ 4096 ∧ x.2 ≤ 262144 := by
  obtain ⟨vs, _, h2⟩ := andR_ok h
  unfold blobL at h2
  obtain ⟨ids, e1, h2⟩ := andR_ok h2
  obtain ⟨n, e2, h2⟩ := andR_ok h2
  injection h2 with h2
  subst h2
  exact ⟨(namesR_ok e1).2.2.1, (numberR_ok e2).2.2⟩
theorem com_lens {q : List UInt8} {x : ComN} (h : comR q = .ok x) : x.author.length ≤ 64 ∧ x.note.length ≤ 1024 := by
  obtain ⟨vs, _, h2⟩ := andR_ok h
  unfold comL at h2
  obtain ⟨t, e1, h2⟩ := andR_ok h2
  obtain ⟨ps, e2, h2⟩ := andR_ok h2
  split at h2
  · cases h2
  obtain ⟨s, _, h2⟩ := andR_ok h2
  obtain ⟨a, e4, h2⟩ := andR_ok h2
  obtain ⟨n, e5, h2⟩ := andR_ok h2
  injection h2 with h2
  subst h2
  exact ⟨(textR_ok e4).2.2, (textR_ok e5).2.2⟩
theorem chunk_len {q c : List UInt8} (h : chunkR q = .ok c) : c.length ≤ 262144 := by
  obtain ⟨vs, _, h2⟩ := andR_ok h
  exact (textR_ok h2).2.2
set_option maxRecDepth 100000 in
set_option maxHeartbeats 8000000 in
theorem only_chunk (v : Value) (b : List UInt8) (w : World) (hb : BytesC (fun k => k < w.heap.size) w v b) (c : List UInt8) (hok : chunkR b = .ok c) :
    Calls Try.prog 6 #[v] w fun e w' => e = .returned (.bool true) ∧ Below w.heap.size w w' := by
  have HBY : Hid (∀ W, Below w.heap.size w W → BytesC (fun k => k < w.heap.size) W v b) := Lib.hid (fun W hW => hb.kept (fun k hk => ⟨hk, hW.block k hk⟩))
  have hkd := chunk_kind hok
  obtain ⟨a2, hn2⟩ := not_blob hkd (by omega)
  obtain ⟨a3, hn3⟩ := not_tree hkd (by omega)
  obtain ⟨a4, hn4⟩ := not_com hkd (by omega)
  have hlk := links_chunk hok
  have hpo := chunk_only hok
  have HK : Hid (∀ W, Below w.heap.size w W → Calls Try.prog 25 #[v] W (FaceR KindA (.int .i64 0) W (.ok 1))) := Lib.hid (fun W hW => by rw [← hkd]; exact kind_any _ v b W (fun k hk => Nat.lt_of_lt_of_le hk hW.size) (HBY.out W hW))
  have HLK : Hid (∀ W, Below w.heap.size w W → Calls Try.prog 27 #[v] W (FaceR (IdsV W) (.slice none 0 0) W (.ok []))) := Lib.hid (fun W hW => by rw [← hlk]; exact links_any _ v b W (fun k hk => Nat.lt_of_lt_of_le hk hW.size) (HBY.out W hW))
  have H1 : Hid (∀ W, Below w.heap.size w W → Calls Try.prog 17 #[v] W (FaceR (ByteV W) (.slice none 0 0) W (.ok c))) := Lib.hid (fun W hW => by rw [← hok]; exact gchunk_any _ v b W (fun k hk => Nat.lt_of_lt_of_le hk hW.size) (HBY.out W hW))
  have H2 : Hid (∀ W, Below w.heap.size w W → Calls Try.prog 19 #[v] W (FaceR (BlobV W) (.agg #[.slice none 0 0, .int .i64 0]) W (.error a2))) := Lib.hid (fun W hW => by rw [← hn2]; exact gblob_any _ v b W (fun k hk => Nat.lt_of_lt_of_le hk hW.size) (HBY.out W hW))
  have g2 : (a2 == 0) = false := by rw [beq_eq_false_iff_ne]; exact blob_err hn2
  have H3 : Hid (∀ W, Below w.heap.size w W → Calls Try.prog 21 #[v] W (FaceR (EntV W) (.slice none 0 0) W (.error a3))) := Lib.hid (fun W hW => by rw [← hn3]; exact gtree_any _ v b W (fun k hk => Nat.lt_of_lt_of_le hk hW.size) (HBY.out W hW))
  have g3 : (a3 == 0) = false := by rw [beq_eq_false_iff_ne]; exact tree_err hn3
  have H4 : Hid (∀ W, Below w.heap.size w W → Calls Try.prog 23 #[v] W (FaceR (ComV W) (.agg (rowL n36 comZ).toArray) W (.error a4))) := Lib.hid (fun W hW => by rw [← hn4]; exact gcom_any _ v b W (fun k hk => Nat.lt_of_lt_of_le hk hW.size) (HBY.out W hW))
  have g4 : (a4 == 0) = false := by rw [beq_eq_false_iff_ne]; exact com_err hn4
  have HPO := Lib.hid hpo
  have HOK := Lib.hid hok
  clear hpo hok hlk hkd hn2 hn3 hn4
  have holz := rowL_len n36 comZ
  obtain ⟨va, vc, rfl⟩ := hb.shape
  clear hb
  obtain ⟨bn, hbn⟩ : ∃ n, b.length = n := ⟨_, rfl⟩
  rw [hbn] at HBY HLK H1 H2 H3 H4 ⊢
  rw [hbn] at HK
  clear hbn
  have hwz : Below w.heap.size w w := Below.refl _ _
  go_enter Try.func6, Try.ntmps6
  go_wp2_with fail
  refine (aw_try w).mono ?_
  rintro e w1 ⟨rfl, hb1⟩
  have HB := Lib.hid hb1
  clear hb1 hwz
  go_wp2_with fail
  refine (H1.out _ HB.out).mono ?_
  rintro e w2 ⟨vx, rfl, hV, hb2⟩
  have HB := Lib.hid (HB.out.trans (hb2.mono HB.out.size))
  have HP := Lib.hid (pchunk_any _ vx c w2 (fun k hk => hk.2) hV (by have := (chunk_len HOK.out); omega))
  rw [HPO.out] at HP
  obtain ⟨xa, xc, rfl⟩ := BytesC.shape hV
  obtain ⟨xn, hxn⟩ : ∃ n, c.length = n := ⟨_, rfl⟩
  rw [hxn] at HP ⊢
  clear hV hb2 hxn
  go_wp2_with fail
  refine HP.out.mono ?_
  rintro e w3 ⟨vy, rfl, hO, hb3⟩
  have HB := Lib.hid (HB.out.trans (hb3.mono HB.out.size))
  have cv1 := bytes_str (own_c hO)
  obtain ⟨ya, yc, rfl⟩ := own_slice hO
  have cv2 := bytes_str (HBY.out _ HB.out)
  obtain ⟨yn, hyn⟩ : ∃ n, b.length = n := ⟨_, rfl⟩
  rw [hyn] at cv1 ⊢
  clear hO hb3 hyn
  go_wp2_with fail
  refine (H2.out _ HB.out).mono ?_
  rintro e w4 ⟨rfl, hb2⟩
  have HB := Lib.hid (HB.out.trans (hb2.mono HB.out.size))
  clear hb2
  have HB := Lib.hid (HB.out.alloc HB.out.size (.cells #[.slice none 0 0, .int .i64 0] 24))
  go_wp2_with fail
  refine (H3.out _ HB.out).mono ?_
  rintro e w5 ⟨rfl, hb2⟩
  have HB := Lib.hid (HB.out.trans (hb2.mono HB.out.size))
  clear hb2
  go_wp2_with fail
  refine (H4.out _ HB.out).mono ?_
  rintro e w6 ⟨rfl, hb2⟩
  have HB := Lib.hid (HB.out.trans (hb2.mono HB.out.size))
  clear hb2
  have st0 := (RF.new w6 30 n36 comZ).write (com_one zeros none 0 0 0 [] [] n36)
  have HB := Lib.hid (below_setRow (g := w6.heap.size) (HB.out.alloc HB.out.size (.cells (rowL n36 comZ).toArray 30)) HB.out.size (rowL n36 comZ).toArray)
  go_wp2_with fail
  refine (HLK.out _ HB.out).mono ?_
  rintro e w7 ⟨vl, rfl, hV, hb2⟩
  have HB := Lib.hid (HB.out.trans (hb2.mono HB.out.size))
  obtain ⟨za, zc, rfl⟩ := row_shape_any hV.1
  have HV := Lib.hid hV
  clear hb2 hV HV
  go_wp2_with fail
  refine (HK.out _ HB.out).mono ?_
  rintro e wz ⟨vk, rfl, rfl, hbz⟩
  have HBZ := Lib.hid (HB.out.trans (hbz.mono HB.out.size))
  clear hbz
  go_wp2_with fail
  go_ret
  exact ⟨rfl, HBZ.out⟩
set_option maxRecDepth 100000 in
set_option maxHeartbeats 8000000 in
theorem only_blob (v : Value) (b : List UInt8) (w : World) (hb : BytesC (fun k => k < w.heap.size) w v b) (x : List (List UInt8) × Nat) (hok : blobR b = .ok x) :
    Calls Try.prog 6 #[v] w fun e w' => e = .returned (.bool true) ∧ Below w.heap.size w w' := by
  have HBY : Hid (∀ W, Below w.heap.size w W → BytesC (fun k => k < w.heap.size) W v b) := Lib.hid (fun W hW => hb.kept (fun k hk => ⟨hk, hW.block k hk⟩))
  have hkd := blob_kind hok
  obtain ⟨a1, hn1⟩ := not_chunk hkd (by omega)
  obtain ⟨a3, hn3⟩ := not_tree hkd (by omega)
  obtain ⟨a4, hn4⟩ := not_com hkd (by omega)
  have hlk := links_blob hok
  have hpo := blob_only hok
  have HK : Hid (∀ W, Below w.heap.size w W → Calls Try.prog 25 #[v] W (FaceR KindA (.int .i64 0) W (.ok 2))) := Lib.hid (fun W hW => by rw [← hkd]; exact kind_any _ v b W (fun k hk => Nat.lt_of_lt_of_le hk hW.size) (HBY.out W hW))
  have HLK : Hid (∀ W, Below w.heap.size w W → Calls Try.prog 27 #[v] W (FaceR (IdsV W) (.slice none 0 0) W (.ok x.1))) := Lib.hid (fun W hW => by rw [← hlk]; exact links_any _ v b W (fun k hk => Nat.lt_of_lt_of_le hk hW.size) (HBY.out W hW))
  have H1 : Hid (∀ W, Below w.heap.size w W → Calls Try.prog 17 #[v] W (FaceR (ByteV W) (.slice none 0 0) W (.error a1))) := Lib.hid (fun W hW => by rw [← hn1]; exact gchunk_any _ v b W (fun k hk => Nat.lt_of_lt_of_le hk hW.size) (HBY.out W hW))
  have g1 : (a1 == 0) = false := by rw [beq_eq_false_iff_ne]; exact chunk_err hn1
  have H2 : Hid (∀ W, Below w.heap.size w W → Calls Try.prog 19 #[v] W (FaceR (BlobV W) (.agg #[.slice none 0 0, .int .i64 0]) W (.ok x))) := Lib.hid (fun W hW => by rw [← hok]; exact gblob_any _ v b W (fun k hk => Nat.lt_of_lt_of_le hk hW.size) (HBY.out W hW))
  have H3 : Hid (∀ W, Below w.heap.size w W → Calls Try.prog 21 #[v] W (FaceR (EntV W) (.slice none 0 0) W (.error a3))) := Lib.hid (fun W hW => by rw [← hn3]; exact gtree_any _ v b W (fun k hk => Nat.lt_of_lt_of_le hk hW.size) (HBY.out W hW))
  have g3 : (a3 == 0) = false := by rw [beq_eq_false_iff_ne]; exact tree_err hn3
  have H4 : Hid (∀ W, Below w.heap.size w W → Calls Try.prog 23 #[v] W (FaceR (ComV W) (.agg (rowL n36 comZ).toArray) W (.error a4))) := Lib.hid (fun W hW => by rw [← hn4]; exact gcom_any _ v b W (fun k hk => Nat.lt_of_lt_of_le hk hW.size) (HBY.out W hW))
  have g4 : (a4 == 0) = false := by rw [beq_eq_false_iff_ne]; exact com_err hn4
  have HPO := Lib.hid hpo
  have HOK := Lib.hid hok
  clear hpo hok hlk hkd hn1 hn3 hn4
  have holz := rowL_len n36 comZ
  obtain ⟨va, vc, rfl⟩ := hb.shape
  clear hb
  obtain ⟨bn, hbn⟩ : ∃ n, b.length = n := ⟨_, rfl⟩
  rw [hbn] at HBY HLK H1 H2 H3 H4 ⊢
  rw [hbn] at HK
  clear hbn
  have hwz : Below w.heap.size w w := Below.refl _ _
  go_enter Try.func6, Try.ntmps6
  go_wp2_with fail
  refine (aw_try w).mono ?_
  rintro e w1 ⟨rfl, hb1⟩
  have HB := Lib.hid hb1
  clear hb1 hwz
  go_wp2_with fail
  refine (H1.out _ HB.out).mono ?_
  rintro e w2 ⟨rfl, hb2⟩
  have HB := Lib.hid (HB.out.trans (hb2.mono HB.out.size))
  clear hb2
  go_wp2_with fail
  refine (H2.out _ HB.out).mono ?_
  rintro e w3 ⟨vx, rfl, ⟨vi, rfl, hI, hn⟩, hb2⟩
  have HB := Lib.hid (HB.out.trans (hb2.mono HB.out.size))
  have hBL := blob_len HOK.out
  obtain ⟨ids, k⟩ := x
  obtain ⟨xa, xc, rfl⟩ := row_shape_any hI.1
  obtain ⟨xn, hxn⟩ : ∃ n, ids.length = n := ⟨_, rfl⟩
  have hv := (own_ids (World.ownsRow.alloc hI.1 (.cells #[.slice xa ids.length xc, .int .i64 k] 24)) hI.2).kept (S' := fun q => q < (w3.alloc (.cells #[.slice xa ids.length xc, .int .i64 k] 24)).heap.size) (fun q hq => ⟨hq.2, rfl⟩)
  have HP := Lib.hid (pblob_any _ xa xn xc ids (k : Int) (w3.alloc (.cells #[.slice xa ids.length xc, .int .i64 k] 24)) (fun q hq => hq) hxn (by rw [← hxn]; exact hv) (by have := hBL.1; simp only at this; omega) (by omega) (by have := hBL.2; simp only at this; omega))
  rw [HPO.out] at HP
  have HB := Lib.hid (HB.out.alloc HB.out.size (.cells #[.slice xa ids.length xc, .int .i64 k] 24))
  simp only at HB HP ⊢
  rw [hxn] at HP HB ⊢
  clear hI hb2 hxn hv hn hBL
  go_wp2_with fail
  refine HP.out.mono ?_
  rintro e w4 ⟨vy, rfl, hO, hb3⟩
  have HB := Lib.hid (HB.out.trans (hb3.mono HB.out.size))
  have cv1 := bytes_str (own_c hO)
  obtain ⟨ya, yc, rfl⟩ := own_slice hO
  have cv2 := bytes_str (HBY.out _ HB.out)
  obtain ⟨yn, hyn⟩ : ∃ n, b.length = n := ⟨_, rfl⟩
  rw [hyn] at cv1 ⊢
  clear hO hb3 hyn
  go_wp2_with fail
  refine (H3.out _ HB.out).mono ?_
  rintro e w5 ⟨rfl, hb2⟩
  have HB := Lib.hid (HB.out.trans (hb2.mono HB.out.size))
  clear hb2
  go_wp2_with fail
  refine (H4.out _ HB.out).mono ?_
  rintro e w6 ⟨rfl, hb2⟩
  have HB := Lib.hid (HB.out.trans (hb2.mono HB.out.size))
  clear hb2
  have st0 := (RF.new w6 30 n36 comZ).write (com_one zeros none 0 0 0 [] [] n36)
  have HB := Lib.hid (below_setRow (g := w6.heap.size) (HB.out.alloc HB.out.size (.cells (rowL n36 comZ).toArray 30)) HB.out.size (rowL n36 comZ).toArray)
  go_wp2_with fail
  refine (HLK.out _ HB.out).mono ?_
  rintro e w7 ⟨vl, rfl, hV, hb2⟩
  have HB := Lib.hid (HB.out.trans (hb2.mono HB.out.size))
  obtain ⟨za, zc, rfl⟩ := row_shape_any hV.1
  have HV := Lib.hid hV
  clear hb2 hV HV
  go_wp2_with fail
  refine (HK.out _ HB.out).mono ?_
  rintro e wz ⟨vk, rfl, rfl, hbz⟩
  have HBZ := Lib.hid (HB.out.trans (hbz.mono HB.out.size))
  clear hbz
  go_wp2_with fail
  go_ret
  exact ⟨rfl, HBZ.out⟩
set_option maxRecDepth 100000 in
set_option maxHeartbeats 8000000 in
theorem only_tree (v : Value) (b : List UInt8) (w : World) (hb : BytesC (fun k => k < w.heap.size) w v b) (l : List EntN) (hok : treeR b = .ok l) :
    Calls Try.prog 6 #[v] w fun e w' => e = .returned (.bool true) ∧ Below w.heap.size w w' := by
  have HBY : Hid (∀ W, Below w.heap.size w W → BytesC (fun k => k < w.heap.size) W v b) := Lib.hid (fun W hW => hb.kept (fun k hk => ⟨hk, hW.block k hk⟩))
  have hkd := tree_kind hok
  obtain ⟨a1, hn1⟩ := not_chunk hkd (by omega)
  obtain ⟨a2, hn2⟩ := not_blob hkd (by omega)
  obtain ⟨a4, hn4⟩ := not_com hkd (by omega)
  have hlk := links_tree hok
  have hpo := tree_only hok
  have HK : Hid (∀ W, Below w.heap.size w W → Calls Try.prog 25 #[v] W (FaceR KindA (.int .i64 0) W (.ok 3))) := Lib.hid (fun W hW => by rw [← hkd]; exact kind_any _ v b W (fun k hk => Nat.lt_of_lt_of_le hk hW.size) (HBY.out W hW))
  have HLK : Hid (∀ W, Below w.heap.size w W → Calls Try.prog 27 #[v] W (FaceR (IdsV W) (.slice none 0 0) W (.ok (l.map EntN.id)))) := Lib.hid (fun W hW => by rw [← hlk]; exact links_any _ v b W (fun k hk => Nat.lt_of_lt_of_le hk hW.size) (HBY.out W hW))
  have H1 : Hid (∀ W, Below w.heap.size w W → Calls Try.prog 17 #[v] W (FaceR (ByteV W) (.slice none 0 0) W (.error a1))) := Lib.hid (fun W hW => by rw [← hn1]; exact gchunk_any _ v b W (fun k hk => Nat.lt_of_lt_of_le hk hW.size) (HBY.out W hW))
  have g1 : (a1 == 0) = false := by rw [beq_eq_false_iff_ne]; exact chunk_err hn1
  have H2 : Hid (∀ W, Below w.heap.size w W → Calls Try.prog 19 #[v] W (FaceR (BlobV W) (.agg #[.slice none 0 0, .int .i64 0]) W (.error a2))) := Lib.hid (fun W hW => by rw [← hn2]; exact gblob_any _ v b W (fun k hk => Nat.lt_of_lt_of_le hk hW.size) (HBY.out W hW))
  have g2 : (a2 == 0) = false := by rw [beq_eq_false_iff_ne]; exact blob_err hn2
  have H3 : Hid (∀ W, Below w.heap.size w W → Calls Try.prog 21 #[v] W (FaceR (EntV W) (.slice none 0 0) W (.ok l))) := Lib.hid (fun W hW => by rw [← hok]; exact gtree_any _ v b W (fun k hk => Nat.lt_of_lt_of_le hk hW.size) (HBY.out W hW))
  have H4 : Hid (∀ W, Below w.heap.size w W → Calls Try.prog 23 #[v] W (FaceR (ComV W) (.agg (rowL n36 comZ).toArray) W (.error a4))) := Lib.hid (fun W hW => by rw [← hn4]; exact gcom_any _ v b W (fun k hk => Nat.lt_of_lt_of_le hk hW.size) (HBY.out W hW))
  have g4 : (a4 == 0) = false := by rw [beq_eq_false_iff_ne]; exact com_err hn4
  have HPO := Lib.hid hpo
  have HOK := Lib.hid hok
  clear hpo hok hlk hkd hn1 hn2 hn4
  have holz := rowL_len n36 comZ
  obtain ⟨va, vc, rfl⟩ := hb.shape
  clear hb
  obtain ⟨bn, hbn⟩ : ∃ n, b.length = n := ⟨_, rfl⟩
  rw [hbn] at HBY HLK H1 H2 H3 H4 ⊢
  rw [hbn] at HK
  clear hbn
  have hwz : Below w.heap.size w w := Below.refl _ _
  go_enter Try.func6, Try.ntmps6
  go_wp2_with fail
  refine (aw_try w).mono ?_
  rintro e w1 ⟨rfl, hb1⟩
  have HB := Lib.hid hb1
  clear hb1 hwz
  go_wp2_with fail
  refine (H1.out _ HB.out).mono ?_
  rintro e w2 ⟨rfl, hb2⟩
  have HB := Lib.hid (HB.out.trans (hb2.mono HB.out.size))
  clear hb2
  go_wp2_with fail
  refine (H2.out _ HB.out).mono ?_
  rintro e w3 ⟨rfl, hb2⟩
  have HB := Lib.hid (HB.out.trans (hb2.mono HB.out.size))
  clear hb2
  have HB := Lib.hid (HB.out.alloc HB.out.size (.cells #[.slice none 0 0, .int .i64 0] 24))
  go_wp2_with fail
  refine (H3.out _ HB.out).mono ?_
  rintro e w4 ⟨vx, rfl, hV, hb2⟩
  have HB := Lib.hid (HB.out.trans (hb2.mono HB.out.size))
  have HP := Lib.hid (ptree_any _ vx l w4 (fun k hk => hk.2) (own_ents hV.1) (by have := tree_len HOK.out; omega) (fun e he => by have := (hV.2 e he); exact ⟨by omega, this.2⟩))
  rw [HPO.out] at HP
  obtain ⟨xa, xc, rfl⟩ := row_shape_any hV.1
  obtain ⟨xn, hxn⟩ : ∃ n, l.length = n := ⟨_, rfl⟩
  rw [hxn] at HP ⊢
  clear hV hb2 hxn
  go_wp2_with fail
  refine HP.out.mono ?_
  rintro e w5 ⟨vy, rfl, hO, hb3⟩
  have HB := Lib.hid (HB.out.trans (hb3.mono HB.out.size))
  have cv1 := bytes_str (own_c hO)
  obtain ⟨ya, yc, rfl⟩ := own_slice hO
  have cv2 := bytes_str (HBY.out _ HB.out)
  obtain ⟨yn, hyn⟩ : ∃ n, b.length = n := ⟨_, rfl⟩
  rw [hyn] at cv1 ⊢
  clear hO hb3 hyn
  go_wp2_with fail
  refine (H4.out _ HB.out).mono ?_
  rintro e w6 ⟨rfl, hb2⟩
  have HB := Lib.hid (HB.out.trans (hb2.mono HB.out.size))
  clear hb2
  have st0 := (RF.new w6 30 n36 comZ).write (com_one zeros none 0 0 0 [] [] n36)
  have HB := Lib.hid (below_setRow (g := w6.heap.size) (HB.out.alloc HB.out.size (.cells (rowL n36 comZ).toArray 30)) HB.out.size (rowL n36 comZ).toArray)
  go_wp2_with fail
  refine (HLK.out _ HB.out).mono ?_
  rintro e w7 ⟨vl, rfl, hV, hb2⟩
  have HB := Lib.hid (HB.out.trans (hb2.mono HB.out.size))
  obtain ⟨za, zc, rfl⟩ := row_shape_any hV.1
  have HV := Lib.hid hV
  clear hb2 hV HV
  go_wp2_with fail
  refine (HK.out _ HB.out).mono ?_
  rintro e wz ⟨vk, rfl, rfl, hbz⟩
  have HBZ := Lib.hid (HB.out.trans (hbz.mono HB.out.size))
  clear hbz
  go_wp2_with fail
  go_ret
  exact ⟨rfl, HBZ.out⟩
set_option maxRecDepth 100000 in
set_option maxHeartbeats 8000000 in
theorem only_com (v : Value) (b : List UInt8) (w : World) (hb : BytesC (fun k => k < w.heap.size) w v b) (x : ComN) (hok : comR b = .ok x) :
    Calls Try.prog 6 #[v] w fun e w' => e = .returned (.bool true) ∧ Below w.heap.size w w' := by
  have HBY : Hid (∀ W, Below w.heap.size w W → BytesC (fun k => k < w.heap.size) W v b) := Lib.hid (fun W hW => hb.kept (fun k hk => ⟨hk, hW.block k hk⟩))
  have hkd := com_kind hok
  obtain ⟨a1, hn1⟩ := not_chunk hkd (by omega)
  obtain ⟨a2, hn2⟩ := not_blob hkd (by omega)
  obtain ⟨a3, hn3⟩ := not_tree hkd (by omega)
  have hlk := links_com hok
  have hpo := com_only hok
  have HK : Hid (∀ W, Below w.heap.size w W → Calls Try.prog 25 #[v] W (FaceR KindA (.int .i64 0) W (.ok 4))) := Lib.hid (fun W hW => by rw [← hkd]; exact kind_any _ v b W (fun k hk => Nat.lt_of_lt_of_le hk hW.size) (HBY.out W hW))
  have HLK : Hid (∀ W, Below w.heap.size w W → Calls Try.prog 27 #[v] W (FaceR (IdsV W) (.slice none 0 0) W (.ok (x.tree :: x.parents)))) := Lib.hid (fun W hW => by rw [← hlk]; exact links_any _ v b W (fun k hk => Nat.lt_of_lt_of_le hk hW.size) (HBY.out W hW))
  have H1 : Hid (∀ W, Below w.heap.size w W → Calls Try.prog 17 #[v] W (FaceR (ByteV W) (.slice none 0 0) W (.error a1))) := Lib.hid (fun W hW => by rw [← hn1]; exact gchunk_any _ v b W (fun k hk => Nat.lt_of_lt_of_le hk hW.size) (HBY.out W hW))
  have g1 : (a1 == 0) = false := by rw [beq_eq_false_iff_ne]; exact chunk_err hn1
  have H2 : Hid (∀ W, Below w.heap.size w W → Calls Try.prog 19 #[v] W (FaceR (BlobV W) (.agg #[.slice none 0 0, .int .i64 0]) W (.error a2))) := Lib.hid (fun W hW => by rw [← hn2]; exact gblob_any _ v b W (fun k hk => Nat.lt_of_lt_of_le hk hW.size) (HBY.out W hW))
  have g2 : (a2 == 0) = false := by rw [beq_eq_false_iff_ne]; exact blob_err hn2
  have H3 : Hid (∀ W, Below w.heap.size w W → Calls Try.prog 21 #[v] W (FaceR (EntV W) (.slice none 0 0) W (.error a3))) := Lib.hid (fun W hW => by rw [← hn3]; exact gtree_any _ v b W (fun k hk => Nat.lt_of_lt_of_le hk hW.size) (HBY.out W hW))
  have g3 : (a3 == 0) = false := by rw [beq_eq_false_iff_ne]; exact tree_err hn3
  have H4 : Hid (∀ W, Below w.heap.size w W → Calls Try.prog 23 #[v] W (FaceR (ComV W) (.agg (rowL n36 comZ).toArray) W (.ok x))) := Lib.hid (fun W hW => by rw [← hok]; exact gcom_any _ v b W (fun k hk => Nat.lt_of_lt_of_le hk hW.size) (HBY.out W hW))
  have HPO := Lib.hid hpo
  have HOK := Lib.hid hok
  clear hpo hok hlk hkd hn1 hn2 hn3
  have holz := rowL_len n36 comZ
  obtain ⟨va, vc, rfl⟩ := hb.shape
  clear hb
  obtain ⟨bn, hbn⟩ : ∃ n, b.length = n := ⟨_, rfl⟩
  rw [hbn] at HBY HLK H1 H2 H3 H4 ⊢
  rw [hbn] at HK
  clear hbn
  have hwz : Below w.heap.size w w := Below.refl _ _
  go_enter Try.func6, Try.ntmps6
  go_wp2_with fail
  refine (aw_try w).mono ?_
  rintro e w1 ⟨rfl, hb1⟩
  have HB := Lib.hid hb1
  clear hb1 hwz
  go_wp2_with fail
  refine (H1.out _ HB.out).mono ?_
  rintro e w2 ⟨rfl, hb2⟩
  have HB := Lib.hid (HB.out.trans (hb2.mono HB.out.size))
  clear hb2
  go_wp2_with fail
  refine (H2.out _ HB.out).mono ?_
  rintro e w3 ⟨rfl, hb2⟩
  have HB := Lib.hid (HB.out.trans (hb2.mono HB.out.size))
  clear hb2
  have HB := Lib.hid (HB.out.alloc HB.out.size (.cells #[.slice none 0 0, .int .i64 0] 24))
  go_wp2_with fail
  refine (H3.out _ HB.out).mono ?_
  rintro e w4 ⟨rfl, hb2⟩
  have HB := Lib.hid (HB.out.trans (hb2.mono HB.out.size))
  clear hb2
  go_wp2_with fail
  refine (H4.out _ HB.out).mono ?_
  rintro e w5 ⟨vx, rfl, ⟨xa, xc, rfl, hI, ht, hs⟩, hb2⟩
  have HB := Lib.hid (HB.out.trans (hb2.mono HB.out.size))
  have hCL := com_lens HOK.out
  have hPL := com_plen HOK.out
  obtain ⟨xn, hxn⟩ : ∃ n, x.parents.length = n := ⟨_, rfl⟩
  rw [hxn] at hI ⊢
  obtain ⟨G, hG⟩ : ∃ G : Nat → Value, G = comF x.tree xa xn xc x.stamp x.author x.note := ⟨_, rfl⟩
  have h1 : OneC n36 G := by rw [hG]; exact com_one _ _ _ _ _ _ _ _
  have R0 := RF.new w5 30 n36 comZ
  have st0 := R0.write h1
  have hol := rowL_len n36 G
  have lc := (R0.put G).cells
  have hI' := hI
  rw [← hxn] at hI'
  have hv := (own_ids (row_kept (w' := (w5.alloc (.cells (rowL n36 comZ).toArray 30)).setRow w5.heap.size (rowL n36 G).toArray) hI'.1 (fun q hq => (setRow_other _ _ _ _ (by have := (World.ownsRow.lt hI'.1 q hq).2; omega)).trans (Below.heap_alloc _ _ _ (World.ownsRow.lt hI'.1 q hq).2))) hI'.2).kept (S' := fun q => q < ((w5.alloc (.cells (rowL n36 comZ).toArray 30)).setRow w5.heap.size (rowL n36 G).toArray).heap.size) (fun q hq => ⟨hq.2, rfl⟩)
  have HP := Lib.hid (pcom_any _ xa xn xc x ((w5.alloc (.cells (rowL n36 comZ).toArray 30)).setRow w5.heap.size (rowL n36 G).toArray) (fun q hq => hq) hxn (by rw [← hxn]; exact hv) (by omega) ht hs (by omega) (by omega))
  rw [HPO.out, ← hG] at HP
  rw [← hG]
  have HB := Lib.hid (below_setRow (g := w5.heap.size) (HB.out.alloc HB.out.size (.cells (rowL n36 comZ).toArray 30)) HB.out.size (rowL n36 G).toArray)
  clear hI hI' hb2 hxn hv hs ht hG R0 h1 hCL hPL
  go_wp2_with fail
  refine HP.out.mono ?_
  rintro e w6 ⟨vy, rfl, hO, hb3⟩
  have HB := Lib.hid (HB.out.trans (hb3.mono HB.out.size))
  have cv1 := bytes_str (own_c hO)
  obtain ⟨ya, yc, rfl⟩ := own_slice hO
  have cv2 := bytes_str (HBY.out _ HB.out)
  obtain ⟨yn, hyn⟩ : ∃ n, b.length = n := ⟨_, rfl⟩
  rw [hyn] at cv1 ⊢
  clear hO hb3 hyn
  go_wp2_with fail
  refine (HLK.out _ HB.out).mono ?_
  rintro e w7 ⟨vl, rfl, hV, hb2⟩
  have HB := Lib.hid (HB.out.trans (hb2.mono HB.out.size))
  obtain ⟨za, zc, rfl⟩ := row_shape_any hV.1
  have HV := Lib.hid hV
  clear hb2 hV HV
  go_wp2_with fail
  refine (HK.out _ HB.out).mono ?_
  rintro e wz ⟨vk, rfl, rfl, hbz⟩
  have HBZ := Lib.hid (HB.out.trans (hbz.mono HB.out.size))
  clear hbz
  go_wp2_with fail
  go_ret
  exact ⟨rfl, HBZ.out⟩
set_option maxRecDepth 100000 in
set_option maxHeartbeats 8000000 in
theorem only_none (v : Value) (b : List UInt8) (w : World) (hb : BytesC (fun k => k < w.heap.size) w v b) (a1 a2 a3 a4 : Int) (hn1 : chunkR b = .error a1) (hn2 : blobR b = .error a2) (hn3 : treeR b = .error a3) (hn4 : comR b = .error a4) :
    Calls Try.prog 6 #[v] w fun e w' => e = .returned (.bool true) ∧ Below w.heap.size w w' := by
  have HBY : Hid (∀ W, Below w.heap.size w W → BytesC (fun k => k < w.heap.size) W v b) := Lib.hid (fun W hW => hb.kept (fun k hk => ⟨hk, hW.block k hk⟩))
  obtain ⟨el, hlk, hel⟩ := links_none hn1 hn2 hn3 hn4
  have HLK : Hid (∀ W, Below w.heap.size w W → Calls Try.prog 27 #[v] W (FaceR (IdsV W) (.slice none 0 0) W (.error el))) := Lib.hid (fun W hW => by rw [← hlk]; exact links_any _ v b W (fun k hk => Nat.lt_of_lt_of_le hk hW.size) (HBY.out W hW))
  have HKA := Lib.hid (fun (W : World) (hW : Below w.heap.size w W) => kind_any _ v b W (fun k hk => Nat.lt_of_lt_of_le hk hW.size) (HBY.out W hW))
  have gl : (el == 0) = false := by rw [beq_eq_false_iff_ne]; exact hel
  clear hel
  have H1 : Hid (∀ W, Below w.heap.size w W → Calls Try.prog 17 #[v] W (FaceR (ByteV W) (.slice none 0 0) W (.error a1))) := Lib.hid (fun W hW => by rw [← hn1]; exact gchunk_any _ v b W (fun k hk => Nat.lt_of_lt_of_le hk hW.size) (HBY.out W hW))
  have g1 : (a1 == 0) = false := by rw [beq_eq_false_iff_ne]; exact chunk_err hn1
  have H2 : Hid (∀ W, Below w.heap.size w W → Calls Try.prog 19 #[v] W (FaceR (BlobV W) (.agg #[.slice none 0 0, .int .i64 0]) W (.error a2))) := Lib.hid (fun W hW => by rw [← hn2]; exact gblob_any _ v b W (fun k hk => Nat.lt_of_lt_of_le hk hW.size) (HBY.out W hW))
  have g2 : (a2 == 0) = false := by rw [beq_eq_false_iff_ne]; exact blob_err hn2
  have H3 : Hid (∀ W, Below w.heap.size w W → Calls Try.prog 21 #[v] W (FaceR (EntV W) (.slice none 0 0) W (.error a3))) := Lib.hid (fun W hW => by rw [← hn3]; exact gtree_any _ v b W (fun k hk => Nat.lt_of_lt_of_le hk hW.size) (HBY.out W hW))
  have g3 : (a3 == 0) = false := by rw [beq_eq_false_iff_ne]; exact tree_err hn3
  have H4 : Hid (∀ W, Below w.heap.size w W → Calls Try.prog 23 #[v] W (FaceR (ComV W) (.agg (rowL n36 comZ).toArray) W (.error a4))) := Lib.hid (fun W hW => by rw [← hn4]; exact gcom_any _ v b W (fun k hk => Nat.lt_of_lt_of_le hk hW.size) (HBY.out W hW))
  have g4 : (a4 == 0) = false := by rw [beq_eq_false_iff_ne]; exact com_err hn4
  clear hlk hn1 hn2 hn3 hn4
  have holz := rowL_len n36 comZ
  obtain ⟨va, vc, rfl⟩ := hb.shape
  clear hb
  obtain ⟨bn, hbn⟩ : ∃ n, b.length = n := ⟨_, rfl⟩
  rw [hbn] at HBY HLK H1 H2 H3 H4 ⊢
  rw [hbn] at HKA
  clear hbn
  have hwz : Below w.heap.size w w := Below.refl _ _
  go_enter Try.func6, Try.ntmps6
  go_wp2_with fail
  refine (aw_try w).mono ?_
  rintro e w1 ⟨rfl, hb1⟩
  have HB := Lib.hid hb1
  clear hb1 hwz
  go_wp2_with fail
  refine (H1.out _ HB.out).mono ?_
  rintro e w2 ⟨rfl, hb2⟩
  have HB := Lib.hid (HB.out.trans (hb2.mono HB.out.size))
  clear hb2
  go_wp2_with fail
  refine (H2.out _ HB.out).mono ?_
  rintro e w3 ⟨rfl, hb2⟩
  have HB := Lib.hid (HB.out.trans (hb2.mono HB.out.size))
  clear hb2
  have HB := Lib.hid (HB.out.alloc HB.out.size (.cells #[.slice none 0 0, .int .i64 0] 24))
  go_wp2_with fail
  refine (H3.out _ HB.out).mono ?_
  rintro e w4 ⟨rfl, hb2⟩
  have HB := Lib.hid (HB.out.trans (hb2.mono HB.out.size))
  clear hb2
  go_wp2_with fail
  refine (H4.out _ HB.out).mono ?_
  rintro e w5 ⟨rfl, hb2⟩
  have HB := Lib.hid (HB.out.trans (hb2.mono HB.out.size))
  clear hb2
  have st0 := (RF.new w5 30 n36 comZ).write (com_one zeros none 0 0 0 [] [] n36)
  have HB := Lib.hid (below_setRow (g := w5.heap.size) (HB.out.alloc HB.out.size (.cells (rowL n36 comZ).toArray 30)) HB.out.size (rowL n36 comZ).toArray)
  go_wp2_with fail
  refine (HLK.out _ HB.out).mono ?_
  rintro e w6 ⟨rfl, hb2⟩
  have HB := Lib.hid (HB.out.trans (hb2.mono HB.out.size))
  clear hb2
  go_wp2_with fail
  refine (HKA.out _ HB.out).mono ?_
  intro e wz hz
  have HX : Hid (∃ a c, e = .returned (.tuple #[.int .i64 a, .int .i64 c]) ∧ Below w.heap.size w wz) := Lib.hid (by
    cases hk : kindR b with
    | error c => rw [hk] at hz; exact ⟨0, c, hz.1, HB.out.trans (hz.2.mono HB.out.size)⟩
    | ok k => rw [hk] at hz; obtain ⟨v, h1, h2, h3⟩ := hz; exact ⟨k, 0, by rw [h1, h2], HB.out.trans (h3.mono HB.out.size)⟩)
  clear hz
  obtain ⟨a, c, rfl, hbz⟩ := HX.out
  have HBZ := Lib.hid hbz
  clear hbz
  go_wp2_with fail
  go_ret
  exact ⟨rfl, HBZ.out⟩
theorem only_law (v : Value) (b : List UInt8) (w : World) (hb : BytesC (fun k => k < w.heap.size) w v b) :
    Calls Try.prog 6 #[v] w fun e w' => e = .returned (.bool true) ∧ Below w.heap.size w w' := by
  cases h1 : chunkR b with
  | ok c => exact only_chunk v b w hb c h1
  | error a1 =>
    cases h2 : blobR b with
    | ok x => exact only_blob v b w hb x h2
    | error a2 =>
      cases h3 : treeR b with
      | ok l => exact only_tree v b w hb l h3
      | error a3 =>
        cases h4 : comR b with
        | ok x => exact only_com v b w hb x h4
        | error a4 => exact only_none v b w hb a1 a2 a3 a4 h1 h2 h3 h4
end Go.Proofs.Ytdolonkeanlaoaa
