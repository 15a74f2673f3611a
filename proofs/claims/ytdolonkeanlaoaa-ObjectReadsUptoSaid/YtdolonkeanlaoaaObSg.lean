/- The walk of the reference's Links. -/
import Derived.Test.YtdolonkeanlaoaaObSf
namespace Go.Proofs.Ytdolonkeanlaoaa
open Go.RowKit
attribute [local simp high] id_size id_zero rent_size rent_zero rcom_size rcom_zero n32_ne n35_ne n36_ne

set_option maxRecDepth 100000 in
set_option maxHeartbeats 8000000 in
theorem dlinks_any (s : List UInt8) (w : World) (hm : s.length ≤ 281474976710656) :
    Calls Try.prog 28 #[.string ⟨s.toArray⟩] w (FaceR (IdsV w) (.slice none 0 0) w (linksR s)) := by
  have hst := run_storeF
  have HK := Lib.hid (dkind_any s w hm)
  have HMM := Lib.hid hm
  unfold linksR
  clear hm
  cases hk : kindR s with
  | error c =>
    rw [hk] at HK
    rw [andR_bad rfl]
    have hc0 : c ≠ 0 := kind_err hk
    have g1 : (c != 0) = true := by rw [bne_iff_ne]; exact hc0
    clear hk hc0
    go_enter Try.func28, Try.ntmps28
    go_wp2_with fail
    refine HK.out.mono ?_
    rintro e w1 ⟨rfl, hb1⟩
    have HB := Lib.hid hb1
    clear hb1
    go_wp2_with fail
    go_ret2
    exact ⟨rfl, HB.out⟩
  | ok k =>
    rw [hk] at HK
    rw [andR_of rfl]
    obtain ⟨hk1, hk4⟩ := kindR_lt hk
    clear hk
    have hcase : k = 1 ∨ k = 2 ∨ k = 3 ∨ k = 4 := by omega
    rcases hcase with rfl | rfl | rfl | rfl
    · rw [if_pos rfl]
      clear hk1 hk4
      go_enter Try.func28, Try.ntmps28
      go_wp2_with fail
      refine HK.out.mono ?_
      rintro e w1 ⟨vk, rfl, rfl, hb1⟩
      have HB1 := Lib.hid hb1
      have HC := Lib.hid (dgchunk_any s w1 HMM.out)
      clear hb1
      obtain ⟨R, hR⟩ : ∃ R, chunkR s = R := ⟨_, rfl⟩
      rw [hR] at HC
      have HR := Lib.hid hR
      clear hR
      go_wp2_with fail
      refine HC.out.mono ?_
      intro e w2 h2
      cases R with
      | error c =>
        obtain ⟨rfl, hb2⟩ := h2
        have HB2 := Lib.hid (HB1.out.trans (hb2.mono HB1.out.size))
        clear hb2
        go_wp2_with fail
        go_ret2
        rw [HR.out]
        exact ⟨rfl, HB2.out⟩
      | ok b =>
        obtain ⟨vb, rfl, rfl, hb2⟩ := h2
        have HB2 := Lib.hid (HB1.out.trans (hb2.mono HB1.out.size))
        clear hb2
        go_wp2_with fail
        go_ret2
        rw [HR.out]
        exact ⟨_, rfl, ⟨World.ownsRow_nil _ _ _ _, fun y hy => by simp at hy⟩, HB2.out⟩
    · rw [if_neg (by omega), if_pos rfl]
      clear hk1 hk4
      go_enter Try.func28, Try.ntmps28
      go_wp2_with fail
      refine HK.out.mono ?_
      rintro e w1 ⟨vk, rfl, rfl, hb1⟩
      have HB1 := Lib.hid hb1
      have HC := Lib.hid (dgblob_any s w1 HMM.out)
      clear hb1
      obtain ⟨R, hR⟩ : ∃ R, blobR s = R := ⟨_, rfl⟩
      rw [hR] at HC
      have HR := Lib.hid hR
      clear hR
      go_wp2_with fail
      refine HC.out.mono ?_
      intro e w2 h2
      cases R with
      | error c =>
        obtain ⟨rfl, hb2⟩ := h2
        have HB2 := Lib.hid ((HB1.out.trans (hb2.mono HB1.out.size)).alloc (HB1.out.trans (hb2.mono HB1.out.size)).size (.cells #[.slice none 0 0, .int .i64 0] 38))
        clear hb2
        go_wp2_with fail
        go_ret2
        rw [HR.out]
        exact ⟨rfl, HB2.out⟩
      | ok x =>
        obtain ⟨vb, rfl, ⟨vi, rfl, hI, hn⟩, hb2⟩ := h2
        obtain ⟨ids, n⟩ := x
        obtain ⟨ia, ic, rfl⟩ := row_shape_any hI.1
        have HB2 := Lib.hid ((HB1.out.trans (hb2.mono HB1.out.size)).alloc (HB1.out.trans (hb2.mono HB1.out.size)).size (.cells #[.slice ia ids.length ic, .int .i64 n] 38))
        have HI2 : Hid (IdsV w (w2.alloc (.cells #[.slice ia ids.length ic, .int .i64 n] 38)) (.slice ia ids.length ic) ids) := Lib.hid ⟨own_base (World.ownsRow.alloc hI.1 _) HB1.out.size, hI.2⟩
        simp only at HI2 HB2 ⊢
        obtain ⟨un, hun⟩ : ∃ un, ids.length = un := ⟨_, rfl⟩
        rw [hun] at HI2 HB2 ⊢
        clear hb2 hI hn hun
        go_wp2_with fail
        go_ret2
        rw [HR.out]
        exact ⟨_, rfl, HI2.out, HB2.out⟩
    · rw [if_neg (by omega), if_neg (by omega), if_pos rfl]
      clear hk1 hk4
      go_enter Try.func28, Try.ntmps28
      go_wp2_with fail
      refine HK.out.mono ?_
      rintro e w1 ⟨vk, rfl, rfl, hb1⟩
      have HB1 := Lib.hid hb1
      have HC := Lib.hid (dgtree_any s w1 HMM.out)
      clear hb1
      obtain ⟨R, hR⟩ : ∃ R, treeR s = R := ⟨_, rfl⟩
      rw [hR] at HC
      have HR := Lib.hid hR
      have HLN := Lib.hid (fun l' (h : R = .ok l') => tree_len (hR.trans h))
      clear hR
      go_wp2_with fail
      refine HC.out.mono ?_
      intro e w2 h2
      cases R with
      | error c =>
        obtain ⟨rfl, hb2⟩ := h2
        have HB2 := Lib.hid (HB1.out.trans (hb2.mono HB1.out.size))
        clear hb2
        go_wp2_with fail
        go_loopw [8, 11] (fun v i wr => v = .slice none 0 0 ∧ i = .int .i64 0 ∧ w2 = wr) (fun _ _ _ => 0)
        case atStart => exact ⟨rfl, rfl, rfl⟩
        case round =>
          obtain ⟨rfl, rfl, rfl⟩ := hrel
          go_wp2_with fail
          go_ret2
          rw [HR.out]
          exact ⟨rfl, HB2.out⟩
      | ok x =>
        obtain ⟨vb, rfl, hv, hb2⟩ := h2
        have HB2 := Lib.hid (HB1.out.trans (hb2.mono HB1.out.size))
        have hents := rown_ents hv.1
        obtain ⟨ea, ec, hev⟩ := RowsC.shape hents
        rw [hev] at hents ⊢
        have HV := Lib.hid (fun (W : World) (hb : Below w2.heap.size w2 W) => RowsC.kept ent_keeps hents (S' := fun q => w1.heap.size ≤ q ∧ q < w2.heap.size) (w' := W) (fun k hk => ⟨hk, hb.block k hk.2⟩))
        have HID := Lib.hid (fun e he => (hv.2 e he).2.1)
        obtain ⟨m, hm⟩ : ∃ m, x.length = m := ⟨_, rfl⟩
        have HM := Lib.hid hm
        have hm24 : m ≤ 1024 := by rw [← hm]; exact HLN.out x rfl
        rw [hm] at HV ⊢
        clear hb2 hv hev hents hm
        go_wp2_with fail
        go_loopw [8, 11] (fun v i wr => ∃ (k : Nat), k ≤ m ∧ i = .int .i64 (k : Int) ∧ Hid (wr.ownsRow w2.heap.size 27 32 v k (idsV ((x.map EntN.id).take k))) ∧ Hid (Below w2.heap.size w2 wr)) (fun _ i _ => m - (intOf i).toNat)
        case atStart => exact ⟨0, Nat.zero_le _, rfl, Lib.hid (World.ownsRow_nil _ _ _ _), Lib.hid (Below.refl _ _)⟩
        case round =>
          obtain ⟨k, hk, rfl, hO, hB⟩ := hrel
          by_cases hlt : k < m
          · obtain ⟨g, o, rfl, hSg, _, hc2, hat⟩ := EntsC.at (show EntsC _ wr (.slice ea x.length ec) x by rw [HM.out]; exact HV.out wr hB.out) (by rw [HM.out]; omega)
            have hck := hat k (by rw [HM.out]; exact hlt)
            have HFI : Hid ((x.getD k noEnt).id.length = 32) := Lib.hid (HID.out _ (getD_mem (by rw [HM.out]; exact hlt)))
            have HTK : Hid ((x.map EntN.id).take (k + 1) = (x.map EntN.id).take k ++ [(x.getD k noEnt).id]) := Lib.hid (by
              have hkl : k < x.length := by rw [HM.out]; exact hlt
              rw [List.take_succ_eq_append_getElem (by simpa using hkl)]
              simp [List.getD, hkl])
            clear hat
            generalize x.getD k noEnt = f at *
            have hidl : (loadCellsFrom ⟨g, o + k * n35 + 2, none⟩ 0 n32 #[]).run Try.prog wr = .ok (bv f.id).toArray wr := by
              rw [← ent_id HFI.out]
              exact load_row wr g (o + k * n35 + 2) n32 (fun j => entF f (2 + j)) (fun j hj => by rw [Nat.add_assoc]; exact hck (2 + j) (by unfold n32 at hj; omega))
            have zx : (bv f.id).length = n32 := by rw [bv_len, HFI.out]; rfl
            have hbi := fun g => build_ids (F := bv f.id) zx g
            have hnl : (16777216 < n32) = False := by unfold n32; simp
            obtain ⟨i0, hi, hz0, hz1, hz2q⟩ := info_parts id_info
            have HZ := Lib.hid hB.out.size
            clear hck
            go_wp2_with (at_builtin; refine wpList_own_src _ rfl _ _ 22 22 rfl w2.heap.size 27 i0 (.agg (bv zeros).toArray) 32 32 Try.underlying22 hi hz0 hz1 hz2q rfl (by decide) _ _ _ rfl (World.ownsRow.alloc hO.out _) _ 1 (bv f.id) rfl (srcI_one _ f.id HFI.out) ?c3 ?c4 ?c5 ?_)
            case c3 => unfold maxLen; omega
            case c4 => omega
            case c5 => have := HZ.out; simp; omega
            intro v3 w3 hown3 hg3
            have hB3 : Hid (Below w2.heap.size w2 w3) := Lib.hid ((hB.out.alloc HZ.out (.cells (bv f.id).toArray 27)).grown hg3.gb (by have := HZ.out; simp; omega) (fun q hq => (World.ownsRow.lt (World.ownsRow.alloc hO.out (.cells (bv f.id).toArray 27)) q hq).1))
            have hO3 : Hid (w3.ownsRow w2.heap.size 27 32 v3 (k + 1) (idsV ((x.map EntN.id).take (k + 1)))) := Lib.hid (by rw [HTK.out, idsV_snoc]; exact hown3)
            clear hown3 hg3 hidl zx hbi hnl
            go_wp2
            go_roundw
            case rel => exact ⟨k + 1, by omega, by go_num, hO3, hB3⟩
            case measure => simp [intOf]; omega
          · have hkm : k = m := by omega
            have h := hO.out
            rw [hkm, List.take_of_length_le (by rw [List.length_map, HM.out]; omega)] at h
            obtain ⟨oa, oc, hoa⟩ := row_shape_any h
            have HBF : Hid (Below w.heap.size w wr) := Lib.hid (HB2.out.trans (hB.out.mono HB2.out.size))
            have HF : Hid (IdsV w wr _ (x.map EntN.id)) := Lib.hid ⟨own_base (by rw [List.length_map, HM.out]; exact h) HB2.out.size, fun y hy => by obtain ⟨e, he, rfl⟩ := List.mem_map.1 hy; exact HID.out e he⟩
            rw [hoa] at HF ⊢
            clear h hO hkm hoa
            go_wp2_with fail
            go_ret2
            rw [HR.out]
            exact ⟨_, rfl, HF.out, HBF.out⟩
    · rw [if_neg (by omega), if_neg (by omega), if_neg (by omega)]
      clear hk1 hk4
      go_enter Try.func28, Try.ntmps28
      go_wp2_with fail
      refine HK.out.mono ?_
      rintro e w1 ⟨vk, rfl, rfl, hb1⟩
      have HB1 := Lib.hid hb1
      have HC := Lib.hid (dgcom_any s w1 HMM.out)
      clear hb1
      obtain ⟨R, hR⟩ : ∃ R, comR s = R := ⟨_, rfl⟩
      rw [hR] at HC
      have HR := Lib.hid hR
      have HER := Lib.hid (fun c (h : R = .error c) => com_err (hR.trans h))
      have HPL := Lib.hid (fun x (h : R = .ok x) => com_plen (hR.trans h))
      clear hR
      have holz := rowL_len n36 comZ
      go_wp2_with fail
      refine HC.out.mono ?_
      intro e w2 h2
      cases R with
      | error c =>
        obtain ⟨rfl, hb2⟩ := h2
        have hc0 : c ≠ 0 := HER.out c rfl
        have g1 : (c != 0) = true := by rw [bne_iff_ne]; exact hc0
        have r2 := RF.new w2 46 n36 comZ
        have st0 := r2.write (com_one zeros none 0 0 0 [] [] n36)
        have HB2 := Lib.hid (below_setRow ((HB1.out.trans (hb2.mono HB1.out.size)).alloc (HB1.out.trans (hb2.mono HB1.out.size)).size (.cells (rowL n36 comZ).toArray 46)) (HB1.out.trans (hb2.mono HB1.out.size)).size (rowL n36 comZ).toArray)
        clear hb2 hc0 r2
        go_wp2_with fail
        go_ret2
        rw [HR.out]
        exact ⟨rfl, HB2.out⟩
      | ok x =>
        obtain ⟨vb, rfl, ⟨ia, ic, rfl, hI, ht, hs⟩, hb2⟩ := h2
        have hpl := HPL.out x rfl
        obtain ⟨G, hG⟩ : ∃ G : Nat → Value, G = comF x.tree ia x.parents.length ic x.stamp x.author x.note := ⟨_, rfl⟩
        have h1 : OneC n36 G := by rw [hG]; exact com_one _ _ _ _ _ _ _ _
        rw [← hG]
        have R0 := RF.new w2 46 n36 comZ
        have st0 := R0.write h1
        have hol := rowL_len n36 G
        have hbz := HB1.out.trans (hb2.mono HB1.out.size)
        have HA : Hid (RF ((w2.alloc (.cells (rowL n36 comZ).toArray 46)).setRow w2.heap.size (rowL n36 G).toArray) w2.heap.size 46 n36 G) := Lib.hid (R0.put G)
        have HB2 := Lib.hid (below_setRow (g := w2.heap.size) (hbz.alloc hbz.size (.cells (rowL n36 comZ).toArray 46)) hbz.size (rowL n36 G).toArray)
        have HI2 : Hid (IdsV w1 ((w2.alloc (.cells (rowL n36 comZ).toArray 46)).setRow w2.heap.size (rowL n36 G).toArray) (.slice ia x.parents.length ic) x.parents) := Lib.hid ⟨row_kept hI.1 (fun q hq => (setRow_other _ _ _ _ (by have := (World.ownsRow.lt hI.1 q hq).2; omega)).trans (Below.heap_alloc _ _ _ (World.ownsRow.lt hI.1 q hq).2)), hI.2⟩
        have HG := Lib.hid hG
        have HT := Lib.hid ht
        obtain ⟨un, hun⟩ : ∃ un, x.parents.length = un := ⟨_, rfl⟩
        have HUN := Lib.hid hun
        rw [hun] at HI2 HG hpl
        have HPL2 := Lib.hid hpl
        clear hb2 hI ht hs R0 hbz hG hun h1
        go_upto_region 19 with fail
        clear st0 hol holz
        generalize (w2.alloc (.cells (rowL n36 comZ).toArray 46)).setRow w2.heap.size (rowL n36 G).toArray = w3 at *
        obtain ⟨cb, hcb⟩ : ∃ cb, w2.heap.size = cb := ⟨_, rfl⟩
        rw [hcb] at HA ⊢
        have hcl : (loadCellsFrom ⟨cb, 0, none⟩ 0 n32 #[]).run Try.prog w3 = .ok (bv x.tree).toArray w3 := by
          have := HA.out.load (o := 0) (m := n32) (by unfold n32 n36; omega)
          rw [← com_tree HT.out ia un ic x.stamp x.author x.note]
          rw [HG.out] at this
          simpa using this
        have HC32 : Hid (∀ W : World, W.heap[cb]? = w3.heap[cb]? → W.cell? ⟨cb, 32, none⟩ = some (.slice ia un ic)) := Lib.hid (fun W hW => by
          have := (HA.out.kept hW).cell (k := 32) (by unfold n36; omega)
          rw [HG.out] at this
          exact this)
        have zx : (bv x.tree).length = n32 := by rw [bv_len, HT.out]; rfl
        have hbi := fun g => build_ids (F := bv x.tree) zx g
        have hnl : (16777216 < n32) = False := by unfold n32; simp
        obtain ⟨i0, hi, hz0, hz1, hz2q⟩ := info_parts id_info
        have HZB := Lib.hid HB2.out.size
        have HCB : Hid (cb < w3.heap.size) := Lib.hid HA.out.lt
        clear hcb
        go_upto_region 21 with fail
        go_upto_region 22 with (at_builtin; refine wpList_own_src _ rfl _ _ 22 22 rfl w3.heap.size 27 i0 (.agg (bv zeros).toArray) 32 32 Try.underlying22 hi hz0 hz1 hz2q rfl (by decide) _ _ _ rfl (World.ownsRow_nil _ _ _ _) _ 1 (bv x.tree) rfl (srcI_one _ x.tree HT.out) (by unfold maxLen; omega) (by omega) (by simp) ?_; intro v4 w4 hown4 hg4)
        have HO4 : Hid (w4.ownsRow w3.heap.size 27 32 v4 1 (bv x.tree)) := Lib.hid (by simpa using hown4)
        have HB4 : Hid (Below w3.heap.size w3 w4) := Lib.hid (((Below.refl _ w3).alloc (Nat.le_refl _) (.cells (bv x.tree).toArray 27)).grown hg4.gb (by simp) (fun q hq => by cases hq))
        have HSR : Hid (Src Try.prog 32 22 (.slice ia un ic) un (idsV x.parents) w4) := Lib.hid ((own_cells (row_kept (by have := HI2.out.1; rwa [HUN.out] at this) (fun q hq => HB4.out.block q (World.ownsRow.lt HI2.out.1 q hq).2)) (idsV_one x.parents)).src Try.underlying22)
        have c32 := HC32.out w4 (HB4.out.block cb HCB.out)
        obtain ⟨v4a, v4c, rfl⟩ := row_shape_any HO4.out
        clear hown4 hg4 hcl hbi zx
        go_wp2_with (at_builtin; refine wpList_own_src _ rfl _ _ 22 22 rfl w3.heap.size 27 i0 (.agg (bv zeros).toArray) 32 32 Try.underlying22 hi hz0 hz1 hz2q rfl (by decide) _ _ _ rfl HO4.out _ un (idsV x.parents) rfl HSR.out ?c3 ?c4 ?c5 ?_)
        case c3 => have := HPL2.out; unfold maxLen; omega
        case c4 => have := HPL2.out; omega
        case c5 => exact HB4.out.size
        intro v5 w5 hown5 hg5
        have HB5 : Hid (Below w.heap.size w w5) := Lib.hid (HB2.out.trans ((HB4.out.grown hg5.gb HB4.out.size (fun q hq => (World.ownsRow.lt HO4.out q hq).1)).mono HZB.out))
        have HO5 : Hid (IdsV w w5 v5 (x.tree :: x.parents)) := Lib.hid ⟨own_base (by
          have e : idsV (x.tree :: x.parents) = bv x.tree ++ idsV x.parents := rfl
          rw [e, List.length_cons, HUN.out, Nat.add_comm]; exact hown5) HZB.out, fun y hy => by
            rcases List.mem_cons.1 hy with rfl | hy
            · exact HT.out
            · exact HI2.out.2 y hy⟩
        clear hown5 hg5 hnl c32
        go_wp2_with fail
        go_ret2
        rw [HR.out]
        exact ⟨_, rfl, HO5.out, HB5.out⟩
end Go.Proofs.Ytdolonkeanlaoaa
