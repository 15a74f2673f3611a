/- The walk of closed. -/
import Derived.Test.YteijekhmgedhoaaDoorShaL
import Derived.Deep.Upon
namespace Go.Proofs.YteijekhmgedhoaaDoor
open Go.RowKit
attribute [local simp high] st_size st_zero b64_size b64_zero id_size id_zero

/-- The last k bytes of the size laid into a block's end. -/
def putK (base : List UInt8) (n : Nat) : Nat → List UInt8
  | 0 => base
  | k + 1 => (putK base n k).set (63 - k) (UInt8.ofNat (n / 2 ^ (8 * k) % 256))
theorem putK_len (base : List UInt8) (n k : Nat) : (putK base n k).length = base.length := by
  induction k with
  | zero => rfl
  | succ k ih => simp only [putK, List.length_set, ih]
theorem putK_at (base : List UInt8) (n k : Nat) (hb : base.length = 64) (hk : k ≤ 8) (i : Nat) : (putK base n k)[i]? = if 64 - k ≤ i ∧ i < 64 then some (UInt8.ofNat (n / 2 ^ (8 * (63 - i)) % 256)) else base[i]? := by
  induction k with
  | zero => rw [if_neg (by omega)]; rfl
  | succ k ih =>
    simp only [putK]
    rw [List.getElem?_set, putK_len, hb, ih (by omega)]
    by_cases h : 63 - k = i
    · subst h
      rw [if_pos rfl, if_pos (by omega), if_pos (by omega)]
      congr 5; omega
    · rw [if_neg h]
      by_cases h2 : 64 - k ≤ i ∧ i < 64
      · rw [if_pos h2, if_pos (by omega)]
      · rw [if_neg h2, if_neg (by omega)]
theorem pl_0 (n : Nat) : (placesN n)[0]? = some (UInt8.ofNat (n / 2 ^ 56 % 256)) := by rfl
theorem pl_1 (n : Nat) : (placesN n)[1]? = some (UInt8.ofNat (n / 2 ^ 48 % 256)) := by rfl
theorem pl_2 (n : Nat) : (placesN n)[2]? = some (UInt8.ofNat (n / 2 ^ 40 % 256)) := by rfl
theorem pl_3 (n : Nat) : (placesN n)[3]? = some (UInt8.ofNat (n / 2 ^ 32 % 256)) := by rfl
theorem pl_4 (n : Nat) : (placesN n)[4]? = some (UInt8.ofNat (n / 2 ^ 24 % 256)) := by rfl
theorem pl_5 (n : Nat) : (placesN n)[5]? = some (UInt8.ofNat (n / 2 ^ 16 % 256)) := by rfl
theorem pl_6 (n : Nat) : (placesN n)[6]? = some (UInt8.ofNat (n / 2 ^ 8 % 256)) := by rfl
theorem pl_7 (n : Nat) : (placesN n)[7]? = some (UInt8.ofNat (n / 2 ^ 0 % 256)) := by rw [Nat.pow_zero, Nat.div_one]; rfl
theorem placesN_len (n : Nat) : (placesN n).length = 8 := rfl
theorem putK_all (base : List UInt8) (n : Nat) (hb : base.length = 64) : putK base n 8 = base.take 56 ++ placesN n := by
  apply List.ext_getElem?
  intro i
  rw [putK_at _ _ _ hb (by omega)]
  by_cases h : i < 56
  · rw [if_neg (by omega), List.getElem?_append_left (by rw [List.length_take]; omega), List.getElem?_take, if_pos h]
  · rw [List.getElem?_append_right (by rw [List.length_take]; omega), List.length_take, hb]
    by_cases h2 : i < 64
    · rw [if_pos (by omega)]
      have hc : i = 56 ∨ i = 57 ∨ i = 58 ∨ i = 59 ∨ i = 60 ∨ i = 61 ∨ i = 62 ∨ i = 63 := by omega
      rcases hc with rfl | rfl | rfl | rfl | rfl | rfl | rfl | rfl
      · rw [show 8 * (63 - 56) = 56 from rfl, show 56 - min 56 64 = 0 from rfl]; exact (pl_0 n).symm
      · rw [show 8 * (63 - 57) = 48 from rfl, show 57 - min 56 64 = 1 from rfl]; exact (pl_1 n).symm
      · rw [show 8 * (63 - 58) = 40 from rfl, show 58 - min 56 64 = 2 from rfl]; exact (pl_2 n).symm
      · rw [show 8 * (63 - 59) = 32 from rfl, show 59 - min 56 64 = 3 from rfl]; exact (pl_3 n).symm
      · rw [show 8 * (63 - 60) = 24 from rfl, show 60 - min 56 64 = 4 from rfl]; exact (pl_4 n).symm
      · rw [show 8 * (63 - 61) = 16 from rfl, show 61 - min 56 64 = 5 from rfl]; exact (pl_5 n).symm
      · rw [show 8 * (63 - 62) = 8 from rfl, show 62 - min 56 64 = 6 from rfl]; exact (pl_6 n).symm
      · rw [show 8 * (63 - 63) = 0 from rfl, show 63 - min 56 64 = 7 from rfl]; exact (pl_7 n).symm
    · rw [if_neg (by omega), List.getElem?_eq_none (by omega)]
      rw [List.getElem?_eq_none (by rw [placesN_len]; omega)]
theorem len57 : Tryd.prog.arrayLen 67 = 64 := by kernel_rfl
theorem elem57 : Tryd.prog.elem 67 = 5 := by kernel_rfl
theorem und57 : Tryd.prog.underlying 67 = some (.array (Tryd.prog.arrayLen 67) (Tryd.prog.elem 67)) := by kernel_rfl
theorem slice64 (w : World) (b n : Nat) (hn : n < 64) : (Instr.sliceAt 67 (.pointer (some ⟨b, 0, none⟩)) (some (.int .i64 (n : Int))) none none).run Tryd.prog w = .ok (.slice (some ⟨b, n, none⟩) (64 - n) (64 - n)) w := by
  rw [run_sliceAt_array_l w 67 _ und57 .i64 (n : Int) (by omega) (by rw [len57]; omega), len57, elem57, Tryd.sizeOf5]
  have e : (64 : Nat) ≠ n := by omega
  simp [slicedAt, Result.andThen, e, Addr.add]
  omega
theorem slice64_all (w : World) (b : Nat) : (Instr.sliceAt 67 (.pointer (some ⟨b, 0, none⟩)) none none none).run Tryd.prog w = .ok (.slice (some ⟨b, 0, none⟩) 64 64) w := by
  rw [run_sliceAt_array_all w 67 _ und57, len57, elem57, Tryd.sizeOf5]
  simp [slicedAt, Result.andThen, Addr.add]
/-- The block with the bit that is 1 behind its first n bytes, noughts behind. -/
def oneB (l : List UInt8) (n : Nat) : List UInt8 := (l.take n ++ List.replicate (64 - n) 0).set n 128
theorem oneB_len {l : List UInt8} {n : Nat} (hl : l.length = 64) (hn : n < 64) : (oneB l n).length = 64 := by
  unfold oneB; rw [List.length_set, List.length_append, List.length_take, List.length_replicate]; omega
def zerosL : List UInt8 := List.replicate 64 0
def closedN (v : Eight) (l : List UInt8) (n sz : Nat) : Eight :=
  if n < 56 then blockN ((oneB l n).take 56 ++ placesN (8 * sz)) 0 v else blockN (zerosL.take 56 ++ placesN (8 * sz)) 0 (blockN (oneB l n) 0 v)
theorem addE_lt (x y : Eight) : ∀ z ∈ (addE x y).list, z < two32 := by
  have hm : ∀ z : Nat, z % two32 < two32 := fun z => Nat.mod_lt _ (by unfold two32; omega)
  intro z hz
  unfold addE at hz
  simp only [Eight.list, List.mem_cons, List.not_mem_nil, or_false] at hz
  rcases hz with rfl | rfl | rfl | rfl | rfl | rfl | rfl | rfl <;> exact hm _
theorem blockN_lt (b : List UInt8) (o : Nat) (v : Eight) : ∀ x ∈ (blockN b o v).list, x < two32 := addE_lt v _
set_option maxRecDepth 100000 in
set_option maxHeartbeats 4000000 in
theorem closed_lo (v : Eight) (l : List UInt8) (n sz : Nat) (w : World) (hv : ∀ x ∈ v.list, x < two32) (hl : l.length = 64) (hn : n < 56) (hs : sz < 2305843009213693952) (hE : Env w) : Calls Tryd.prog 39 #[.agg (wv v.list).toArray, .agg (bv l).toArray, .int .i64 n, .int .u64 sz] w fun e w' => e = .returned (.agg (wv (closedN v l n sz).list).toArray) ∧ Below w.heap.size w w' := by
  have HCN : Hid (closedN v l n sz = blockN ((oneB l n).take 56 ++ placesN (8 * sz)) 0 v) := Lib.hid (if_pos hn)
  have hr1 := RowAt.new w 66 (wv v.list)
  have hr2 := RowAt.new (w.alloc (.cells (wv v.list).toArray 66)) 67 (bv l)
  have hr3 := RowAt.new ((w.alloc (.cells (wv v.list).toArray 66)).alloc (.cells (bv l).toArray 67)) 66 (wv zeros8)
  have hbw := (((Below.refl w.heap.size w).alloc (Nat.le_refl _) (.cells (wv v.list).toArray 66)).alloc (by simp) (.cells (bv l).toArray 67)).alloc (by simp; omega) (.cells (wv zeros8).toArray 66)
  replace hr1 := (hr1.kept (Below.heap_alloc _ (.cells (bv l).toArray 67) _ hr1.lt))
  replace hr1 := (hr1.kept (Below.heap_alloc _ (.cells (wv zeros8).toArray 66) _ hr1.lt))
  replace hr2 := (hr2.kept (Below.heap_alloc _ (.cells (wv zeros8).toArray 66) _ hr2.lt))
  simp only [World.size_alloc] at hr2 hr3
  have HR1 := Lib.hid hr1
  have HR2 := Lib.hid hr2
  have HR3 := Lib.hid hr3
  have HBW := Lib.hid hbw
  have HV := Lib.hid hv
  have HL := Lib.hid hl
  have HE := Lib.hid hE
  have hcl := fun c ty => clear_run hr2 hl (show n < 64 by omega) c ty
  have g1 : decide ((56 : Int) ≤ (n : Int)) = false := by simp; omega
  have hsl := fun W => slice64 W (w.heap.size + 1) n (by omega)
  clear hr1 hr2 hr3 hbw hv hl hE
  go_enter Tryd.func39, Tryd.ntmps39
  go_upto_region 2 with (simp only [hcl])
  clear hcl hsl
  have hc2 := clear_row HR2.out HL.out (show n < 64 by omega)
  have hlen : (l.take n ++ List.replicate (64 - n) 0).length = 64 := by rw [List.length_append, List.length_take, List.length_replicate, HL.out]; omega
  have k1 := HR1.out.kept (World.heap_setCells_other _ (w.heap.size + 1) n (List.replicate (64 - n) (Value.int .u8 0)) HR1.out.lt (by omega))
  have k3 := HR3.out.kept (World.heap_setCells_other _ (w.heap.size + 1) n (List.replicate (64 - n) (Value.int .u8 0)) HR3.out.lt (by omega))
  have kb := below_sets (b := w.heap.size + 1) (show w.heap.size ≤ w.heap.size + 1 by omega) (List.replicate (64 - n) (Value.int .u8 0)) n _ HBW.out
  generalize (((w.alloc (.cells (wv v.list).toArray 66)).alloc (.cells (bv l).toArray 67)).alloc (.cells (wv zeros8).toArray 66)).setCells (w.heap.size + 1) n (List.replicate (64 - n) (Value.int .u8 0)) = w4 at *
  obtain ⟨b1, hb1⟩ : ∃ b1, b1 = w.heap.size := ⟨_, rfl⟩
  obtain ⟨b2, hb2⟩ : ∃ b2, b2 = w.heap.size + 1 := ⟨_, rfl⟩
  obtain ⟨b3, hb3⟩ : ∃ b3, b3 = w.heap.size + 1 + 1 := ⟨_, rfl⟩
  have hd1 : w.heap.size ≤ b1 := by omega
  have hd2 : b1 < b2 := by omega
  have hd3 : b2 < b3 := by omega
  rw [← hb3] at k3 ⊢
  rw [← hb2] at hc2 ⊢
  rw [← hb1] at k1
  rw [show (Value.pointer (some { block := w.heap.size, off := 0 }) : Value) = .pointer (some ⟨b1, 0, none⟩) by rw [hb1]]
  clear HR1 HR2 HR3 HBW hb1 hb2 hb3
  have K1 := Lib.hid k1
  have K3 := Lib.hid k3
  have KB := Lib.hid kb
  have c2 := (hc2.cell n).trans (bv_getD (by rw [hlen]; omega))
  have f2 := hc2.free n
  have hst := hc2.set n (.int .u8 (128 : Nat))
  rw [bv_set _ _ _ (by omega)] at hst
  have HST : Hid (RowAt (w4.setCell ⟨b2, n, none⟩ (.int .u8 128)) b2 67 (bv (oneB l n))) := Lib.hid hst
  have HO : Hid ((oneB l n).length = 64) := Lib.hid (oneB_len HL.out (by omega))
  have M1 := Lib.hid (K1.out.kept (w' := w4.setCell ⟨b2, n, none⟩ (.int .u8 128)) (heap_setCell_other _ _ _ _ (by simp; omega)))
  have M3 := Lib.hid (K3.out.kept (w' := w4.setCell ⟨b2, n, none⟩ (.int .u8 128)) (heap_setCell_other _ _ _ _ (by simp; omega)))
  have MB := Lib.hid (KB.out.setCell (p := ⟨b2, n, none⟩) (by show w.heap.size ≤ b2; omega) (.int .u8 128))
  clear hc2 hst k1 k3 kb hlen K1 K3 KB
  go_upto_region 3 with fail
  clear c2 f2
  generalize w4.setCell ⟨b2, n, none⟩ (.int .u8 128) = w5 at *
  generalize oneB l n = B at *
  go_wp2_with fail
  go_loopw [20] (fun i wr => ∃ k : Nat, k ≤ 8 ∧ i = .int .i64 k ∧ RowAt wr b1 66 (wv v.list) ∧ RowAt wr b3 66 (wv zeros8) ∧ RowAt wr b2 67 (bv (putK B (8 * sz) k)) ∧ Below w.heap.size w wr) (fun i _ => 8 - (intOf i).toNat)
  case atStart => exact ⟨0, by omega, rfl, M1.out, M3.out, HST.out, MB.out⟩
  case round =>
    obtain ⟨k, hk, rfl, hr1, hr3, hr2, hbw⟩ := hrel
    by_cases hlt : k < 8
    · have c2 := (hr2.cell (63 - k)).trans (bv_getD (by rw [putK_len, HO.out]; omega))
      have f2 := hr2.free (63 - k)
      have hst := hr2.set (63 - k) (.int .u8 ((8 * sz / 2 ^ (8 * k) % 256 : Nat) : Int))
      rw [bv_set _ _ _ (by omega)] at hst
      have HST : Hid (RowAt (wr.setCell ⟨b2, 63 - k, none⟩ (.int .u8 ((8 * sz / 2 ^ (8 * k) % 256 : Nat) : Int))) b2 67 (bv (putK B (8 * sz) (k + 1)))) := Lib.hid hst
      have J1 := Lib.hid hr1
      have J3 := Lib.hid hr3
      have JB := Lib.hid hbw
      obtain ⟨q, hq⟩ : ∃ q, q = 63 - k := ⟨_, rfl⟩
      obtain ⟨s, hs'⟩ : ∃ s, s = 8 * k := ⟨_, rfl⟩
      rw [← hq] at c2 f2 HST
      rw [← hs'] at HST
      have hq1 : (63 : Int) - (k : Int) = (q : Int) := by omega
      have hq2 : q < 64 := by omega
      have hs1 : (8 : Int) * (k : Int) = (s : Int) := by omega
      have hs2 : s ≤ 56 := by omega
      have hs3 : IntKind.u64.wrap ((8 : Int) * (sz : Int)) = ((8 * sz : Nat) : Int) := by rw [IntKind.wrap_u64]; omega
      have hs4 : (((8 * sz : Nat) : Int) / 2 ^ s) = ((8 * sz / 2 ^ s : Nat) : Int) := by simp
      have HS4 := Lib.hid hs4
      generalize 8 * sz / 2 ^ s = y at *
      have hs5 : IntKind.u8.wrap (y : Int) = ((y % 256 : Nat) : Int) := by rw [IntKind.wrap_u8]; omega
      generalize (putK B (8 * sz) k).getD q 0 = u at *
      clear hr1 hr3 hr2 hbw hst hq hs'
      go_wp2_with fail
      go_roundw
      case rel =>
        have e : (8 * (sz : Int) / 2 ^ s % 256) = ((y % 256 : Nat) : Int) := by rw [show (8 * (sz : Int)) = ((8 * sz : Nat) : Int) by omega, HS4.out]; omega
        rw [e]
        exact ⟨k + 1, by omega, by go_num, J1.out.kept (heap_setCell_other _ _ _ _ (by simp; omega)), J3.out.kept (heap_setCell_other _ _ _ _ (by simp; omega)), HST.out, JB.out.setCell (by simp; omega) _⟩
      case measure => simp [intOf]; omega
    · have hk8 : k = 8 := by omega
      have hd : decide ((k : Int) < 8) = false := by rw [hk8]; rfl
      rw [hk8, putK_all _ _ HO.out] at hr2
      have hbl : (B.take 56 ++ placesN (8 * sz)).length = 64 := by rw [List.length_append, List.length_take, placesN_len, HO.out]; rfl
      have HT := Lib.hid (fun w hE => taken_any v (B.take 56 ++ placesN (8 * sz)) w HV.out hbl hE)
      have HF := Lib.hid hbl
      obtain ⟨y, hy⟩ : ∃ y, y = blockN (B.take 56 ++ placesN (8 * sz)) 0 v := ⟨_, rfl⟩
      rw [← hy] at HT HCN
      clear hy
      generalize B.take 56 ++ placesN (8 * sz) = F at *
      have c1 := hr1.cells (n := n8) rfl
      have c2 := hr2.cells (n := n64) (by rw [bv_len, hbl]; rfl)
      have J3 := Lib.hid hr3
      have JB := Lib.hid hbw
      clear hk8 hr1 hr2 hr3 hbw hbl hlt
      go_wp2_with fail
      refine (HT.out _ (HE.out.on JB.out)).mono ?_
      rintro e w7 ⟨rfl, hb7⟩
      have hr3 := J3.out.kept (w' := w7) (hb7.block b3 J3.out.lt)
      have HBF := Lib.hid (below_setRow (JB.out.trans (hb7.mono JB.out.size)) (show w.heap.size ≤ b3 by omega) (wv y.list).toArray)
      have HP := Lib.hid (hr3.put (wv y.list))
      have c3 := hr3.write (vs := wv y.list) rfl (wv_one _)
      have zl : (wv y.list).length = n8 := rfl
      clear hb7 hr3 c1 c2
      go_wp2_with fail
      exact bodyPost_ret (v := .agg (wv y.list).toArray) (results_row rfl _ _ rfl Tryd.under66' Tryd.size66 HP.out) rfl ⟨by rw [HCN.out], HBF.out⟩
end Go.Proofs.YteijekhmgedhoaaDoor
