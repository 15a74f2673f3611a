/- The walks of object's Kind, linksOfTree, Links. -/
import Derived.Test.YtdolonkeanlaoaaDoorObP
namespace Go.Proofs.YtdolonkeanlaoaaDoor
open Go.RowKit
attribute [local simp high] id_size id_zero ent_size ent_zero com_size com_zero n32_ne n35_ne n36_ne

def KindA (_ : World) (v : Value) (k : Nat) : Prop := v = .int .i64 k
set_option maxRecDepth 100000 in
set_option maxHeartbeats 2000000 in
theorem kind_any (S : Nat → Prop) (v : Value) (l : List UInt8) (w : World) (hS : ∀ k, S k → k < w.heap.size) (hb : BytesC S w v l) :
    Calls Tryd.prog 14 #[v] w (FaceR KindA (.int .i64 0) w (kindR l)) := by
  have hst := run_storeF
  have HD := Lib.hid (decode_any S v l w hS hb)
  unfold kindR
  obtain ⟨sa, sc, rfl⟩ := hb.shape
  clear hb hS
  cases hd : decR l with
  | error c =>
    rw [hd] at HD
    rw [andR_bad rfl]
    have hc0 : c ≠ 0 := decR_err hd
    have g : (c == 0) = false := by rw [beq_eq_false_iff_ne]; exact hc0
    clear hd hc0
    go_enter Tryd.func14, Tryd.ntmps14
    go_wp2_with fail
    refine HD.out.mono ?_
    rintro e w1 ⟨rfl, hb1⟩
    have HB := Lib.hid hb1
    clear hb1
    go_wp2
    go_ret2
    exact ⟨rfl, HB.out.alloc HB.out.size _⟩
  | ok x =>
    rw [hd] at HD
    rw [andR_of rfl]
    clear hd
    go_enter Tryd.func14, Tryd.ntmps14
    go_wp2_with fail
    refine HD.out.mono ?_
    rintro e w1 ⟨vx, rfl, hx, hb1⟩
    have HX := Lib.hid hx
    obtain ⟨a1, c1, a2, c2, rfl, h2, h3, h4, h5, h6, h7⟩ := hx.parts
    have HB := Lib.hid hb1
    have HL := Lib.hid h7
    have HS := Lib.hid hb1.size
    have HFN := Lib.hid (fun j (hj : j < x.list.length) => show (at0 x.list j).num < 18446744073709551616 by
      obtain ⟨_, _, _, _, _, _, _, _, _, _, _, hr⟩ := ListS.el (S := NewS w w1) h7 (j := j) (x := at0 x.list j) (by unfold at0; rw [List.getElem?_eq_getElem hj]; simp [List.getD, hj])
      obtain ⟨_, _, _, _, _, h, _⟩ := hr.parts
      exact h)
    clear hx hb1 h6 h7
    generalize hm : x.list.length = m at *
    have HHL := Lib.hid hm
    clear hm
    have HN := Lib.hid (numbered_any (NewS w w1) 14 (.agg #[.int .i64 x.kind, .int .u64 x.num, .slice a1 x.bytes.length c1, .float .f64 x.real, .slice a2 m c2]) x (w1.alloc (.cells #[.int .i64 x.kind, .int .u64 x.num, .slice a1 x.bytes.length c1, .float .f64 x.real, .slice a2 m c2] 53)) (fun k hk => by have := hk.2; simp; omega)
      (ReadsS.kept (fun k hk => ⟨hk, Below.heap_alloc _ _ _ hk.2⟩) 16 _ _ HX.out))
    have hblk := new_five w1 #[.int .i64 x.kind, .int .u64 x.num, .slice a1 x.bytes.length c1, .float .f64 x.real, .slice a2 m c2] 53
    have HK := Lib.hid hblk
    clear hblk
    have HF : Hid (kindV x = if numB x = false then .error 91 else if (at0 x.list 0).num < 1 ∨ 4 < (at0 x.list 0).num then .error 90 else .ok (at0 x.list 0).num) := Lib.hid (by
      unfold kindV numB
      have e : (x.kind ≠ 3 ∨ x.list.length = 0 ∨ (x.list.getD 0 (numV 0)).kind ≠ 0) ↔ (decide (x.kind = 3) && (decide (0 < x.list.length) && decide ((at0 x.list 0).kind = 0))) = false := by
        rw [Bool.eq_false_iff]
        simp only [ne_eq, Bool.and_eq_true, decide_eq_true_eq, at0]
        constructor
        · intro h k
          rcases h with h | h | h
          · exact h k.1
          · have := k.2.1; omega
          · exact h (of_decide_eq_true k.2.2)
        · intro h
          by_cases k1 : x.kind = 3
          · by_cases k2 : x.list.length = 0
            · exact Or.inr (Or.inl k2)
            · exact Or.inr (Or.inr (fun k3 => h ⟨k1, by omega, decide_eq_true k3⟩))
          · exact Or.inl k1
      simp only [e]
      rfl)
    have HM0 : Hid (numB x = true → 0 < m) := Lib.hid (fun h => by
      unfold numB at h
      rw [← HHL.out]
      simp only [Bool.and_eq_true, decide_eq_true_eq] at h
      exact h.2.1)
    generalize hB : numB x = nb at *
    go_wp2_with fail
    refine HN.out.mono ?_
    rintro e w2 ⟨rfl, hb2⟩
    have hs2 := hb2.size
    simp only [World.size_alloc] at hs2
    obtain ⟨⟨p0, p1, p2, p3, p4⟩, _⟩ := five_cells ((hb2.block w1.heap.size (by simp)).trans HK.out)
    have HB2 : Hid (Below w.heap.size w w2) := Lib.hid ((HB.out.alloc HB.out.size _).trans (hb2.mono (by simp; have := HS.out; omega)))
    have HW2 : Hid (∀ k, k < w1.heap.size → w2.heap[k]? = w1.heap[k]?) := Lib.hid (fun k hk => (hb2.block k (by simp; omega)).trans (Below.heap_alloc _ _ _ hk))
    clear hb2
    cases nb
    · have HE : Hid (kindV x = .error 91) := Lib.hid (by rw [HF.out, if_pos rfl])
      go_wp2_with fail
      go_ret2
      rw [HE.out]
      exact ⟨rfl, HB2.out⟩
    · have hm0 := HM0.out rfl
      obtain ⟨y, hy⟩ : ∃ y, x.list[0]? = some y := ⟨_, List.getElem?_eq_getElem (by rw [HHL.out]; omega)⟩
      have hL := HL.out
      rw [← HHL.out] at hL
      obtain ⟨g, o, b1, d1, b2, d2, rfl, hg, hlc, hcm, ⟨_, e1, _⟩, _⟩ := hL.el hy
      rw [HHL.out] at hlc
      simp only [Nat.zero_mul, Nat.add_zero] at e1
      have e2 : w2.cell? ⟨g, o + 1, none⟩ = some (.int .u64 y.num) := (World.cell?_of_block (w := w1) (HW2.out g hg.2)).trans e1
      have hy0 := at0_get hy
      have hyn := HFN.out 0 hm0
      rw [hy0] at HF hyn
      clear hL hy hy0 e1 hg hcm
      by_cases hk : y.num < 1 ∨ 4 < y.num
      · have HE : Hid (kindV x = .error 90) := Lib.hid (by rw [HF.out, if_neg (by simp), if_pos hk])
        by_cases hk1 : y.num < 1
        · clear hk
          go_wp2_with fail
          go_ret2
          rw [HE.out]
          exact ⟨rfl, HB2.out⟩
        · have hk4 : 4 < y.num := by omega
          clear hk
          go_wp2_with fail
          go_ret2
          rw [HE.out]
          exact ⟨rfl, HB2.out⟩
      · have HE : Hid (kindV x = .ok y.num) := Lib.hid (by rw [HF.out, if_neg (by simp), if_neg hk])
        have hk1 : ¬ y.num < 1 := by omega
        have hk4 : ¬ 4 < y.num := by omega
        clear hk
        go_wp2_with fail
        go_ret2
        rw [HE.out]
        exact ⟨_, rfl, rfl, HB2.out⟩
theorem EntsC.row {S : Nat → Prop} {w : World} {a : Option Addr} {c k : Nat} {l : List EntN} (h : EntsC S w (.slice a l.length c) l) (hk : k < l.length) :
    ∃ g o, a = some ⟨g, o, none⟩ ∧ S g ∧ l.length ≤ c ∧ c ≤ 9223372036854775807 ∧ ∀ W : World, W.heap[g]? = w.heap[g]? → (loadCellsFrom ⟨g, o + k * n35, none⟩ 0 n35 #[]).run Tryd.prog W = .ok (rowL n35 (entF (l.getD k noEnt))).toArray W := by
  obtain ⟨g, o, h1, h2, h3, h4, h5⟩ := EntsC.at h (by omega)
  exact ⟨g, o, h1, h2, h3, h4, fun W hW => load_row W g (o + k * n35) n35 _ (fun j hj => (World.cell?_of_block (w := w) hW).trans (h5 k hk j (by unfold n35 at hj; exact hj)))⟩
/-- The id within an entry's cells. -/
theorem ent_id {e : EntN} (h : e.id.length = 32) : rowL n32 (fun j => entF e (2 + j)) = bv e.id := by
  refine (rowL_ext (by rw [bv_len, h]; rfl) (fun k hk => ?_)).symm
  have hk' : k < e.id.length := by rw [h]; exact hk
  unfold bv
  rw [List.getElem?_map, List.getElem?_eq_getElem hk']
  have hk32 : k < 32 := hk
  unfold entF
  rw [if_neg (by omega), if_neg (by omega), if_pos (by omega), show 2 + k - 2 = k by omega]
  simp [List.getD, hk']
set_option maxRecDepth 100000 in
set_option maxHeartbeats 4000000 in
theorem linkst_any (S : Nat → Prop) (v : Value) (l : List EntN) (w : World) (hS : ∀ k, S k → k < w.heap.size) (hv : EntsC S w v l) (hl : l.length ≤ 1048576) (hid : ∀ e ∈ l, e.id.length = 32) :
    Calls Tryd.prog 24 #[v] w fun e w' => ∃ v', e = .returned v' ∧ IdsV w w' v' (l.map EntN.id) ∧ Below w.heap.size w w' := by
  obtain ⟨la, lc, rfl⟩ := RowsC.shape hv
  have HV := Lib.hid (fun (W : World) (hb : Below w.heap.size w W) => RowsC.kept ent_keeps hv (S' := S) (w' := W) (fun k hk => ⟨hk, hb.block k (hS k hk)⟩))
  have HSS := Lib.hid hS
  have HID := Lib.hid hid
  obtain ⟨m, hm⟩ : ∃ m, l.length = m := ⟨_, rfl⟩
  have HM := Lib.hid hm
  rw [hm] at hl HV ⊢
  clear hv hS hid hm
  go_enter Tryd.func24, Tryd.ntmps24
  go_wp2_with fail
  go_loopw [3, 8] (fun v i wr => ∃ (k : Nat), k ≤ m ∧ i = .int .i64 (k : Int) ∧ Hid (wr.ownsRow w.heap.size 33 32 v k (idsV ((l.map EntN.id).take k))) ∧ Hid (Below w.heap.size w wr)) (fun _ i _ => m - (intOf i).toNat)
  case atStart => exact ⟨0, Nat.zero_le _, rfl, Lib.hid (World.ownsRow_nil _ _ _ _), Lib.hid (Below.refl _ _)⟩
  case round =>
    obtain ⟨k, hk, rfl, hO, hB⟩ := hrel
    by_cases hlt : k < m
    · obtain ⟨g, o, rfl, hSg, _, hc2, hat⟩ := EntsC.row (k := k) (show EntsC S wr (.slice la l.length lc) l by rw [HM.out]; exact HV.out wr hB.out) (by rw [HM.out]; exact hlt)
      have hg : g < wr.heap.size := Nat.lt_of_lt_of_le (HSS.out g hSg) hB.out.size
      have c1 := hat wr rfl
      have HFI : Hid ((l.getD k noEnt).id.length = 32) := Lib.hid (HID.out _ (getD_mem (by rw [HM.out]; exact hlt)))
      have HTK : Hid ((l.map EntN.id).take (k + 1) = (l.map EntN.id).take k ++ [(l.getD k noEnt).id]) := Lib.hid (by
        have hkl : k < l.length := by rw [HM.out]; exact hlt
        rw [List.take_succ_eq_append_getElem (by simpa using hkl)]
        simp [List.getD, hkl])
      clear hat
      generalize l.getD k noEnt = f at *
      have i1 := RF.new wr 45 n35 (entF noEnt)
      have c2 := i1.write (ent_one f n35)
      have HI := Lib.hid (i1.put (entF f))
      have HW := Lib.hid (below_setRow ((Below.refl wr.heap.size wr).alloc (Nat.le_refl _) (.cells (rowL n35 (entF noEnt)).toArray 45)) (Nat.le_refl _) (rowL n35 (entF f)).toArray)
      have hol := rowL_len n35 (entF f)
      have hol2 := rowL_len n35 (entF noEnt)
      clear i1
      go_upto_region 5 with fail
      clear c1 c2 hol hol2
      generalize (wr.alloc (.cells (rowL n35 (entF noEnt)).toArray 45)).setRow wr.heap.size (rowL n35 (entF f)).toArray = w5 at *
      have hidl : (loadCellsFrom ⟨wr.heap.size, 2, none⟩ 0 n32 #[]).run Tryd.prog w5 = .ok (bv f.id).toArray w5 := by
        rw [← ent_id HFI.out]
        exact HI.out.load (o := 2) (m := n32) (by unfold n35 n32; omega)
      have zx : (bv f.id).length = n32 := by rw [bv_len, HFI.out]; rfl
      have hbi := fun g => build_ids (F := bv f.id) zx g
      have hnl : (16777216 < n32) = False := by unfold n32; simp
      obtain ⟨i0, hi, hz0, hz1, hz2q⟩ := info_parts id_info
      have HO2 := Lib.hid (row_kept (w' := w5) hO.out (fun q hq => HW.out.block q (World.ownsRow.lt hO.out q hq).2))
      have hz2 := HW.out.size
      have hzb := hB.out.size
      go_wp2_with (at_builtin; refine wpList_own_src _ rfl _ _ 29 29 rfl w.heap.size 33 i0 (.agg (bv zeros).toArray) 32 32 Tryd.underlying29 hi hz0 hz1 hz2q rfl (by decide) _ _ _ rfl (World.ownsRow.alloc HO2.out _) _ 1 (bv f.id) rfl (srcI_one _ f.id HFI.out) ?c3 ?c4 ?c5 ?_)
      case c3 => unfold maxLen; omega
      case c4 => omega
      case c5 => simp; omega
      intro v3 w3 hown3 hg3
      have hB3 : Hid (Below w.heap.size w w3) := Lib.hid (((hB.out.trans (HW.out.mono hB.out.size)).alloc (by omega) (.cells (bv f.id).toArray 33)).grown hg3.gb (by simp; omega) (fun q hq => (World.ownsRow.lt (World.ownsRow.alloc HO2.out (.cells (bv f.id).toArray 33)) q hq).1))
      have hO3 : Hid (w3.ownsRow w.heap.size 33 32 v3 (k + 1) (idsV ((l.map EntN.id).take (k + 1)))) := Lib.hid (by rw [HTK.out, idsV_snoc]; exact hown3)
      clear hown3 hg3 hidl zx hbi hnl
      go_wp2
      go_roundw
      case rel => exact ⟨k + 1, by omega, by go_num, hO3, hB3⟩
      case measure => simp [intOf]; omega
    · have hkm : k = m := by omega
      have HO : Hid (_) := Lib.hid hO.out
      have HKM := Lib.hid hkm
      clear hkm
      go_wp2_with fail
      go_ret
      have h := HO.out
      rw [HKM.out, List.take_of_length_le (by rw [List.length_map, HM.out]; omega)] at h
      refine ⟨_, rfl, ⟨?_, fun y hy => ?_⟩, hB.out⟩
      · rw [List.length_map, HM.out]; exact h
      · obtain ⟨e, he, rfl⟩ := List.mem_map.1 hy
        exact HID.out e he
end Go.Proofs.YtdolonkeanlaoaaDoor
