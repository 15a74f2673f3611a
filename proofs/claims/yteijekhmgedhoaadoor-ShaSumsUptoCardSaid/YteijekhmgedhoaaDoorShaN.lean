/- The walk of closed, where a block more is wanted. -/
import Derived.Test.YteijekhmgedhoaaDoorShaM
import Derived.Deep.Cut
namespace Go.Proofs.YteijekhmgedhoaaDoor
open Go.RowKit
attribute [local simp high] st_size st_zero b64_size b64_zero id_size id_zero

set_option maxRecDepth 100000 in
set_option maxHeartbeats 4000000 in
theorem closed_hi (v : Eight) (l : List UInt8) (n sz : Nat) (w : World) (hv : ∀ x ∈ v.list, x < two32) (hl : l.length = 64) (hn : 56 ≤ n) (hn2 : n < 64) (hs : sz < 2305843009213693952) (hE : Env w) : Calls Tryd.prog 39 #[.agg (wv v.list).toArray, .agg (bv l).toArray, .int .i64 n, .int .u64 sz] w fun e w' => e = .returned (.agg (wv (closedN v l n sz).list).toArray) ∧ Below w.heap.size w w' := by
  have HCN : Hid (closedN v l n sz = blockN (zerosL.take 56 ++ placesN (8 * sz)) 0 (blockN (oneB l n) 0 v)) := Lib.hid (if_neg (by omega))
  have hr1 := RowAt.new w 66 (wv v.list)
  have hr2 := RowAt.new (w.alloc (.cells (wv v.list).toArray 66)) 67 (bv l)
  have hr3 := RowAt.new ((w.alloc (.cells (wv v.list).toArray 66)).alloc (.cells (bv l).toArray 67)) 66 (wv zeros8)
  have hbw := (((Below.refl w.heap.size w).alloc (Nat.le_refl _) (.cells (wv v.list).toArray 66)).alloc (by simp) (.cells (bv l).toArray 67)).alloc (by simp; omega) (.cells (wv zeros8).toArray 66)
  replace hr1 := (hr1.kept (Below.heap_alloc _ (.cells (bv l).toArray 67) _ hr1.lt))
  replace hr1 := (hr1.kept (Below.heap_alloc _ (.cells (wv zeros8).toArray 66) _ hr1.lt))
  replace hr2 := (hr2.kept (Below.heap_alloc _ (.cells (wv zeros8).toArray 66) _ hr2.lt))
  simp only [World.size_alloc] at hr2 hr3
  have HR1 := Lib.hid hr1
  have HR2 := Lib.hid hr2
  have HR3 := Lib.hid hr3
  have HBW := Lib.hid hbw
  have HV := Lib.hid hv
  have HL := Lib.hid hl
  have HE := Lib.hid hE
  have hcl := fun c ty => clear_run hr2 hl (show n < 64 by omega) c ty
  have g1 : decide ((56 : Int) ≤ (n : Int)) = true := by simp; omega
  have hsl := fun W => slice64 W (w.heap.size + 1) n (by omega)
  clear hr1 hr2 hr3 hbw hv hl hE
  go_enter Tryd.func39, Tryd.ntmps39
  go_upto_region 2 with (simp only [hcl])
  clear hcl hsl
  have hc2 := clear_row HR2.out HL.out (show n < 64 by omega)
  have hlen : (l.take n ++ List.replicate (64 - n) 0).length = 64 := by rw [List.length_append, List.length_take, List.length_replicate, HL.out]; omega
  have k1 := HR1.out.kept (World.heap_setCells_other _ (w.heap.size + 1) n (List.replicate (64 - n) (Value.int .u8 0)) HR1.out.lt (by omega))
  have k3 := HR3.out.kept (World.heap_setCells_other _ (w.heap.size + 1) n (List.replicate (64 - n) (Value.int .u8 0)) HR3.out.lt (by omega))
  have kb := below_sets (b := w.heap.size + 1) (show w.heap.size ≤ w.heap.size + 1 by omega) (List.replicate (64 - n) (Value.int .u8 0)) n _ HBW.out
  generalize (((w.alloc (.cells (wv v.list).toArray 66)).alloc (.cells (bv l).toArray 67)).alloc (.cells (wv zeros8).toArray 66)).setCells (w.heap.size + 1) n (List.replicate (64 - n) (Value.int .u8 0)) = w4 at *
  obtain ⟨b1, hb1⟩ : ∃ b1, b1 = w.heap.size := ⟨_, rfl⟩
  obtain ⟨b2, hb2⟩ : ∃ b2, b2 = w.heap.size + 1 := ⟨_, rfl⟩
  obtain ⟨b3, hb3⟩ : ∃ b3, b3 = w.heap.size + 1 + 1 := ⟨_, rfl⟩
  have hd1 : w.heap.size ≤ b1 := by omega
  have hd2 : b1 < b2 := by omega
  have hd3 : b2 < b3 := by omega
  rw [← hb3] at k3 ⊢
  rw [← hb2] at hc2 ⊢
  rw [← hb1] at k1
  rw [show (Value.pointer (some { block := w.heap.size, off := 0 }) : Value) = .pointer (some ⟨b1, 0, none⟩) by rw [hb1]]
  clear HR1 HR2 HR3 HBW hb1 hb2 hb3
  have K1 := Lib.hid k1
  have K3 := Lib.hid k3
  have KB := Lib.hid kb
  have c2 := (hc2.cell n).trans (bv_getD (by rw [hlen]; omega))
  have f2 := hc2.free n
  have hst := hc2.set n (.int .u8 (128 : Nat))
  rw [bv_set _ _ _ (by omega)] at hst
  have HST : Hid (RowAt (w4.setCell ⟨b2, n, none⟩ (.int .u8 128)) b2 67 (bv (oneB l n))) := Lib.hid hst
  have HO : Hid ((oneB l n).length = 64) := Lib.hid (oneB_len HL.out (by omega))
  have M1 := Lib.hid (K1.out.kept (w' := w4.setCell ⟨b2, n, none⟩ (.int .u8 128)) (heap_setCell_other _ _ _ _ (by simp; omega)))
  have M3 := Lib.hid (K3.out.kept (w' := w4.setCell ⟨b2, n, none⟩ (.int .u8 128)) (heap_setCell_other _ _ _ _ (by simp; omega)))
  have MB := Lib.hid (KB.out.setCell (p := ⟨b2, n, none⟩) (by show w.heap.size ≤ b2; omega) (.int .u8 128))
  clear hc2 hst k1 k3 kb hlen K1 K3 KB
  go_upto_region 3 with fail
  clear c2 f2
  generalize w4.setCell ⟨b2, n, none⟩ (.int .u8 128) = w5 at *
  obtain ⟨v1, hv1⟩ : ∃ v1, v1 = blockN (oneB l n) 0 v := ⟨_, rfl⟩
  rw [← hv1] at HCN
  have HV1 : Hid (∀ x ∈ v1.list, x < two32) := Lib.hid (by rw [hv1]; exact blockN_lt _ _ _)
  have HTK : Hid (∀ w, Env w → Calls Tryd.prog 38 #[.agg (wv v.list).toArray, .agg (bv (oneB l n)).toArray] w fun e w' => e = .returned (.agg (wv v1.list).toArray) ∧ Below w.heap.size w w') := Lib.hid (fun w hE => by rw [hv1]; exact taken_any v (oneB l n) w HV.out HO.out hE)
  clear hv1
  generalize oneB l n = B0 at *
  have c1 := M1.out.cells (n := n8) rfl
  have c2 := HST.out.cells (n := n64) (by rw [bv_len, HO.out]; rfl)
  go_wp2_with fail
  refine (HTK.out _ (HE.out.on MB.out)).mono ?_
  rintro e w6 ⟨rfl, hb6⟩
  have hm1 := M1.out.kept (w' := w6) (hb6.block b1 M1.out.lt)
  have hm2 := HST.out.kept (w' := w6) (hb6.block b2 HST.out.lt)
  have hm3 := M3.out.kept (w' := w6) (hb6.block b3 M3.out.lt)
  have hmb := MB.out.trans (hb6.mono MB.out.size)
  have c3 := hm1.write (vs := wv v1.list) rfl (wv_one _)
  have zl : (wv v1.list).length = n8 := rfl
  have N1 := Lib.hid (hm1.put (wv v1.list))
  have N2 := Lib.hid (hm2.kept (setRow_other w6 b1 b2 (wv v1.list).toArray (by omega)))
  have N3 := Lib.hid (hm3.kept (setRow_other w6 b1 b3 (wv v1.list).toArray (by omega)))
  have NB := Lib.hid (below_setRow hmb (show w.heap.size ≤ b1 by omega) (wv v1.list).toArray)
  clear hb6 hm1 hm2 hm3 hmb c1 c2 M1 M3 MB HST
  go_upto_region 5 with fail
  clear c3
  generalize w6.setRow b1 (wv v1.list).toArray = w7 at *
  have hsl := fun W => slice64_all W b2
  obtain ⟨Z, hZ⟩ : ∃ Z, Z = List.replicate 64 (Value.int .u8 0) := ⟨_, rfl⟩
  have hcl : ∀ c ty, (Builtin.clear_ #[22] ty #[.slice (some ⟨b2, 0, none⟩) 64 c]).run Tryd.prog w7 = .ok (.tuple #[]) (w7.setCells b2 0 Z) := fun c ty => by rw [hZ]; exact clear_run N2.out HO.out (show 0 < 64 by omega) c ty
  have hc2 : RowAt (w7.setCells b2 0 Z) b2 67 (bv zerosL) := by rw [hZ]; exact clear_row N2.out HO.out (show 0 < 64 by omega)
  have HST := Lib.hid hc2
  have M1 := Lib.hid (N1.out.kept (World.heap_setCells_other _ b2 0 Z N1.out.lt (by omega)))
  have M3 := Lib.hid (N3.out.kept (World.heap_setCells_other _ b2 0 Z N3.out.lt (by omega)))
  have MB := Lib.hid (below_sets (b := b2) (show w.heap.size ≤ b2 by omega) Z 0 _ NB.out)
  clear hc2 N1 N2 N3 NB zl HO hZ
  go_upto_region 6 with (simp only [hcl])
  clear hcl hsl
  generalize w7.setCells b2 0 Z = w8 at *
  have HO : Hid (zerosL.length = 64) := Lib.hid rfl
  generalize zerosL = B at *
  go_wp2_with fail
  go_loopw [20] (fun i wr => ∃ k : Nat, k ≤ 8 ∧ i = .int .i64 k ∧ RowAt wr b1 66 (wv v1.list) ∧ RowAt wr b3 66 (wv zeros8) ∧ RowAt wr b2 67 (bv (putK B (8 * sz) k)) ∧ Below w.heap.size w wr) (fun i _ => 8 - (intOf i).toNat)
  case atStart => exact ⟨0, by omega, rfl, M1.out, M3.out, HST.out, MB.out⟩
  case round =>
    obtain ⟨k, hk, rfl, hr1, hr3, hr2, hbw⟩ := hrel
    by_cases hlt : k < 8
    · have c2 := (hr2.cell (63 - k)).trans (bv_getD (by rw [putK_len, HO.out]; omega))
      have f2 := hr2.free (63 - k)
      have hst := hr2.set (63 - k) (.int .u8 ((8 * sz / 2 ^ (8 * k) % 256 : Nat) : Int))
      rw [bv_set _ _ _ (by omega)] at hst
      have HST : Hid (RowAt (wr.setCell ⟨b2, 63 - k, none⟩ (.int .u8 ((8 * sz / 2 ^ (8 * k) % 256 : Nat) : Int))) b2 67 (bv (putK B (8 * sz) (k + 1)))) := Lib.hid hst
      have J1 := Lib.hid hr1
      have J3 := Lib.hid hr3
      have JB := Lib.hid hbw
      obtain ⟨q, hq⟩ : ∃ q, q = 63 - k := ⟨_, rfl⟩
      obtain ⟨s, hs'⟩ : ∃ s, s = 8 * k := ⟨_, rfl⟩
      rw [← hq] at c2 f2 HST
      rw [← hs'] at HST
      have hq1 : (63 : Int) - (k : Int) = (q : Int) := by omega
      have hq2 : q < 64 := by omega
      have hs1 : (8 : Int) * (k : Int) = (s : Int) := by omega
      have hs2 : s ≤ 56 := by omega
      have hs3 : IntKind.u64.wrap ((8 : Int) * (sz : Int)) = ((8 * sz : Nat) : Int) := by rw [IntKind.wrap_u64]; omega
      have hs4 : (((8 * sz : Nat) : Int) / 2 ^ s) = ((8 * sz / 2 ^ s : Nat) : Int) := by simp
      have HS4 := Lib.hid hs4
      generalize 8 * sz / 2 ^ s = y at *
      have hs5 : IntKind.u8.wrap (y : Int) = ((y % 256 : Nat) : Int) := by rw [IntKind.wrap_u8]; omega
      generalize (putK B (8 * sz) k).getD q 0 = u at *
      clear hr1 hr3 hr2 hbw hst hq hs'
      go_wp2_with fail
      go_roundw
      case rel =>
        have e : (8 * (sz : Int) / 2 ^ s % 256) = ((y % 256 : Nat) : Int) := by rw [show (8 * (sz : Int)) = ((8 * sz : Nat) : Int) by omega, HS4.out]; omega
        rw [e]
        exact ⟨k + 1, by omega, by go_num, J1.out.kept (heap_setCell_other _ _ _ _ (by simp; omega)), J3.out.kept (heap_setCell_other _ _ _ _ (by simp; omega)), HST.out, JB.out.setCell (by simp; omega) _⟩
      case measure => simp [intOf]; omega
    · have hk8 : k = 8 := by omega
      have hd : decide ((k : Int) < 8) = false := by rw [hk8]; rfl
      rw [hk8, putK_all _ _ HO.out] at hr2
      have hbl : (B.take 56 ++ placesN (8 * sz)).length = 64 := by rw [List.length_append, List.length_take, placesN_len, HO.out]; rfl
      have HT := Lib.hid (fun w hE => taken_any v1 (B.take 56 ++ placesN (8 * sz)) w HV1.out hbl hE)
      have HF := Lib.hid hbl
      obtain ⟨y, hy⟩ : ∃ y, y = blockN (B.take 56 ++ placesN (8 * sz)) 0 v1 := ⟨_, rfl⟩
      rw [← hy] at HT HCN
      clear hy
      generalize B.take 56 ++ placesN (8 * sz) = F at *
      have c1 := hr1.cells (n := n8) rfl
      have c2 := hr2.cells (n := n64) (by rw [bv_len, hbl]; rfl)
      have J3 := Lib.hid hr3
      have JB := Lib.hid hbw
      clear hk8 hr1 hr2 hr3 hbw hbl hlt
      go_wp2_with fail
      refine (HT.out _ (HE.out.on JB.out)).mono ?_
      rintro e w7 ⟨rfl, hb7⟩
      have hr3 := J3.out.kept (w' := w7) (hb7.block b3 J3.out.lt)
      have HBF := Lib.hid (below_setRow (JB.out.trans (hb7.mono JB.out.size)) (show w.heap.size ≤ b3 by omega) (wv y.list).toArray)
      have HP := Lib.hid (hr3.put (wv y.list))
      have c3 := hr3.write (vs := wv y.list) rfl (wv_one _)
      have zl : (wv y.list).length = n8 := rfl
      clear hb7 hr3 c1 c2
      go_wp2_with fail
      exact bodyPost_ret (v := .agg (wv y.list).toArray) (results_row rfl _ _ rfl Tryd.under66' Tryd.size66 HP.out) rfl ⟨by rw [HCN.out], HBF.out⟩
theorem closed_any (v : Eight) (l : List UInt8) (n sz : Nat) (w : World) (hv : ∀ x ∈ v.list, x < two32) (hl : l.length = 64) (hn : n < 64) (hs : sz < 2305843009213693952) (hE : Env w) : Calls Tryd.prog 39 #[.agg (wv v.list).toArray, .agg (bv l).toArray, .int .i64 n, .int .u64 sz] w fun e w' => e = .returned (.agg (wv (closedN v l n sz).list).toArray) ∧ Below w.heap.size w w' := by
  by_cases h : n < 56
  · exact closed_lo v l n sz w hv hl h hs hE
  · exact closed_hi v l n sz w hv hl (by omega) hn hs hE
theorem closedN_lt (v : Eight) (l : List UInt8) (n sz : Nat) : ∀ x ∈ (closedN v l n sz).list, x < two32 := by
  unfold closedN
  split
  · exact blockN_lt _ _ _
  · exact blockN_lt _ _ _
end Go.Proofs.YteijekhmgedhoaaDoor
