/- Cells cleared; the walks of id and closed. The walk of closed. The walk of closed, where a block more is wanted. The sum, block by block: what was read of a text, and what closes it. Lists of byte slices in memory. The walk of Sum. -/
import Derived.Test.YtdolonkeanlaoaaDoorShaHK
import Derived.Lib.SliceRun
import Derived.BigFrame
import Derived.Deep.Upon
import Derived.Deep.Cut
import Derived.Test.YtdolonkeanlaoaaDoorBase
import Derived.Laws.CopyOwn
namespace Go.Proofs.YtdolonkeanlaoaaDoor
open Go.RowKit
attribute [local simp high] st_zero b64_size b64_zero id_size id_zero

theorem RowAt.sets {b : Nat} {t : TypeId} : ∀ (news : List Value) (o : Nat) (vs : List Value) (w : World), RowAt w b t vs → o + news.length ≤ vs.length → RowAt (w.setCells b o news) b t (vs.take o ++ news ++ vs.drop (o + news.length))
  | [], o, vs, w, h, _ => by simpa [World.setCells] using h
  | v :: r, o, vs, w, h, hl => by
    simp only [List.length_cons] at hl
    have := RowAt.sets r (o + 1) (vs.set o v) (w.setCell ⟨b, o, none⟩ v) (h.set o v) (by rw [List.length_set]; omega)
    have e : (vs.set o v).take (o + 1) ++ r ++ (vs.set o v).drop (o + 1 + r.length) = vs.take o ++ (v :: r) ++ vs.drop (o + (r.length + 1)) := by
      rw [List.take_succ_eq_append_getElem (by rw [List.length_set]; omega), List.getElem_set_self, List.take_set_of_le (Nat.le_refl _), List.drop_set_of_lt (by omega)]
      simp [Nat.add_assoc, Nat.add_comm 1]
    rw [e] at this
    exact this
theorem below_sets {B b : Nat} {w0 : World} (hB : B ≤ b) : ∀ (news : List Value) (o : Nat) (w : World), Below B w0 w → Below B w0 (w.setCells b o news)
  | [], _, _, h => h
  | v :: r, o, w, h => below_sets hB r (o + 1) _ (h.setCell (by simpa using hB) v)
theorem outB_at (v : Eight) (i : Nat) : outB v.list i = UInt8.ofNat (v.list.getD (i / 4) 0 / 2 ^ (24 - 8 * (i % 4)) % 256) := rfl
/-- The first k bytes of the sum, noughts behind. -/
def outUp (h : List Nat) (k : Nat) : List UInt8 := (List.range 32).map fun i => if i < k then outB h i else 0
theorem outUp_zero (h : List Nat) : outUp h 0 = zeros := rfl
theorem outUp_len (h : List Nat) (k : Nat) : (outUp h k).length = 32 := by unfold outUp; simp
theorem outUp_succ (h : List Nat) (k : Nat) (hk : k < 32) : outUp h (k + 1) = (outUp h k).set k (outB h k) := by
  apply List.ext_getElem?
  intro i
  rw [List.getElem?_set, outUp_len]
  unfold outUp
  by_cases hi : k = i
  · subst hi
    simp [hk]
  · rw [if_neg hi]
    by_cases h2 : i < 32
    · simp only [List.getElem?_map, List.getElem?_range h2, Option.map_some]
      congr 1
      by_cases h3 : i < k
      · rw [if_pos h3, if_pos (by omega)]
      · rw [if_neg h3, if_neg (by omega)]
    · simp [h2]
theorem outUp_all (h : List Nat) : outUp h 32 = (List.range 32).map (outB h) := by
  unfold outUp
  apply List.map_congr_left
  intro i hi
  rw [if_pos (List.mem_range.1 hi)]
set_option maxRecDepth 100000 in
set_option maxHeartbeats 4000000 in
theorem id_any (v : Eight) (w : World) (hv : ∀ x ∈ v.list, x < two32) : Calls Tryd.prog 54 #[.agg (wv v.list).toArray] w fun e w' => e = .returned (.agg (bv ((List.range 32).map (outB v.list))).toArray) ∧ Below w.heap.size w w' := by
  have hr1 := RowAt.new w 93 (wv v.list)
  have hi2 := IDAt.new (w.alloc (.cells (wv v.list).toArray 93))
  have hi3 := IDAt.new ((w.alloc (.cells (wv v.list).toArray 93)).alloc (.cells (bv zeros).toArray 33))
  have hbw := (((Below.refl w.heap.size w).alloc (Nat.le_refl _) (.cells (wv v.list).toArray 93)).alloc (by simp) (.cells (bv zeros).toArray 33)).alloc (by simp; omega) (.cells (bv zeros).toArray 33)
  replace hr1 := (hr1.kept (Below.heap_alloc _ (.cells (bv zeros).toArray 33) _ hr1.lt))
  replace hr1 := (hr1.kept (Below.heap_alloc _ (.cells (bv zeros).toArray 33) _ hr1.lt))
  replace hi2 := (hi2.kept (Below.heap_alloc _ (.cells (bv zeros).toArray 33) _ (by simp)))
  simp only [World.size_alloc] at hi2 hi3
  have HR1 := Lib.hid hr1
  have HI2 := Lib.hid hi2
  have HI3 := Lib.hid hi3
  have HBW := Lib.hid hbw
  have HV := Lib.hid hv
  clear hr1 hi2 hi3 hbw hv
  go_enter Tryd.func54, Tryd.ntmps54
  go_wp2_with fail
  generalize ((w.alloc (.cells (wv v.list).toArray 93)).alloc (.cells (bv zeros).toArray 33)).alloc (.cells (bv zeros).toArray 33) = w3 at *
  go_loopw [5] (fun i wr => ∃ k : Nat, k ≤ 32 ∧ i = .int .i64 k ∧ RowAt wr w.heap.size 93 (wv v.list) ∧ IDAt wr (w.heap.size + 1) zeros ∧ IDAt wr (w.heap.size + 1 + 1) (outUp v.list k) ∧ Below w.heap.size w wr) (fun i _ => 32 - (intOf i).toNat)
  case atStart => exact ⟨0, by omega, rfl, HR1.out, HI2.out, by rw [outUp_zero]; exact HI3.out, HBW.out⟩
  case round =>
    obtain ⟨k, hk, rfl, hr1, hi2, hi3, hbw⟩ := hrel
    have J1 := Lib.hid hr1
    have J2 := Lib.hid hi2
    have J3 := Lib.hid hi3
    have JB := Lib.hid hbw
    by_cases hlt : k < 32
    · have c1 := (hr1.cell (k / 4)).trans (wv_at (by show k / 4 < 8; omega))
      have hst := hi3.set k (v.list.getD (k / 4) 0 / 2 ^ (24 - 8 * (k % 4)) % 256) (Nat.mod_lt _ (by omega))
      rw [← outB_at, ← outUp_succ _ _ hlt] at hst
      have HST := Lib.hid hst
      have c3 := hi3.cell k (by rw [outUp_len]; exact hlt)
      have f3 := hi3.free k
      have C3 : Hid (∃ u, wr.cell? ⟨w.heap.size + 1 + 1, k, none⟩ = some u) := Lib.hid ⟨_, c3⟩
      obtain ⟨sh, hsh⟩ : ∃ sh, sh = 24 - 8 * (k % 4) := ⟨_, rfl⟩
      have hx1 : (24 : Int) - 8 * ((k : Int) % 4) = (sh : Int) := by omega
      have hs24 : sh ≤ 24 := by omega
      rw [← hsh] at HST
      generalize v.list.getD (k / 4) 0 = x at *
      have hx2 : ((x : Int) / 2 ^ sh) = ((x / 2 ^ sh : Nat) : Int) := by simp
      generalize x / 2 ^ sh = y at *
      have hx3 : IntKind.u8.wrap (y : Int) = ((y % 256 : Nat) : Int) := by rw [IntKind.wrap_u8]; omega
      clear hr1 hi2 hi3 hbw hst c3 hsh
      obtain ⟨u, c3⟩ := C3.out
      go_wp2_with fail
      go_roundw
      case rel => exact ⟨k + 1, by omega, by go_num, J1.out.kept (heap_setCell_other _ _ _ _ (by simp; omega)), J2.out.kept (heap_setCell_other _ _ _ _ (by simp)), HST.out, JB.out.setCell (by simp; omega) _⟩
      case measure => simp [intOf]; omega
    · have hk32 : k = 32 := by omega
      have hd : decide ((k : Int) < 32) = false := by rw [hk32]; rfl
      have hoa : outUp v.list k = (List.range 32).map (outB v.list) := by rw [hk32]; exact outUp_all _
      rw [hoa] at hi3
      obtain ⟨o, ho⟩ : ∃ o, o = (List.range 32).map (outB v.list) := ⟨_, rfl⟩
      rw [← ho] at hi3
      have HO := Lib.hid ho
      clear ho
      have c3 := hi3.cells
      have c2 := hi2.write (l := o) hi3.len
      have zl : (bv o).length = n32 := by rw [bv_len, hi3.len]; rfl
      have HP := Lib.hid (hi2.put (l := o) hi3.len)
      have HBF := Lib.hid (below_setRow hbw (show w.heap.size ≤ w.heap.size + 1 by omega) (bv o).toArray)
      clear hk32 hoa hr1 hi2 hi3 hbw hlt
      go_wp2_with fail
      exact bodyPost_ret (v := .agg (bv o).toArray) (results_row rfl _ _ rfl Tryd.under33' (by rw [zl]; exact Tryd.size33) ⟨HP.out.blk⟩) rfl ⟨by rw [HO.out], HBF.out⟩
theorem z8 (w : World) : (zeroValue 5).run Tryd.prog w = .ok (.int .u8 0) w := by kernel_rfl
/-- clear of the last bytes of a block. -/
theorem clear_run {w : World} {b n : Nat} {l : List UInt8} (h : RowAt w b 94 (bv l)) (hl : l.length = 64) (hn : n < 64) (c : Nat) (ty : TypeId) :
    (Builtin.clear_ #[22] ty #[.slice (some ⟨b, n, none⟩) (64 - n) c]).run Tryd.prog w = .ok (.tuple #[]) (w.setCells b n (List.replicate (64 - n) (.int .u8 0))) :=
  Lib.run_clear_slice w 22 5 ty (.int .u8 0) Tryd.underlying22 z8 rfl rfl b n (64 - n) c (by omega) (fun j hj => by rw [h.cell, bv_getD (by omega)]; rfl) (fun j hj => h.free _)
theorem clear_row {w : World} {b n : Nat} {l : List UInt8} (h : RowAt w b 94 (bv l)) (hl : l.length = 64) (hn : n < 64) : RowAt (w.setCells b n (List.replicate (64 - n) (.int .u8 0))) b 94 (bv (l.take n ++ List.replicate (64 - n) 0)) := by
  have := RowAt.sets (List.replicate (64 - n) (Value.int .u8 0)) n (bv l) w h (by rw [bv_len, List.length_replicate, hl]; omega)
  have e : (bv l).take n ++ List.replicate (64 - n) (Value.int .u8 0) ++ (bv l).drop (n + (List.replicate (64 - n) (Value.int .u8 0)).length) = bv (l.take n ++ List.replicate (64 - n) 0) := by
    rw [List.drop_eq_nil_of_le (by rw [bv_len, List.length_replicate]; omega), List.append_nil, bv_append, bv_take]
    congr 1
    unfold bv; rw [List.map_replicate]; rfl
  rw [e] at this
  exact this
end Go.Proofs.YtdolonkeanlaoaaDoor
namespace Go.Proofs.YtdolonkeanlaoaaDoor
open Go.RowKit
attribute [local simp high] st_size st_zero b64_size b64_zero id_size id_zero

/-- The last k bytes of the size laid into a block's end. -/
def putK (base : List UInt8) (n : Nat) : Nat → List UInt8
  | 0 => base
  | k + 1 => (putK base n k).set (63 - k) (UInt8.ofNat (n / 2 ^ (8 * k) % 256))
theorem putK_len (base : List UInt8) (n k : Nat) : (putK base n k).length = base.length := by
  induction k with
  | zero => rfl
  | succ k ih => simp only [putK, List.length_set, ih]
theorem putK_at (base : List UInt8) (n k : Nat) (hb : base.length = 64) (hk : k ≤ 8) (i : Nat) : (putK base n k)[i]? = if 64 - k ≤ i ∧ i < 64 then some (UInt8.ofNat (n / 2 ^ (8 * (63 - i)) % 256)) else base[i]? := by
  induction k with
  | zero => rw [if_neg (by omega)]; rfl
  | succ k ih =>
    simp only [putK]
    rw [List.getElem?_set, putK_len, hb, ih (by omega)]
    by_cases h : 63 - k = i
    · subst h
      rw [if_pos rfl, if_pos (by omega), if_pos (by omega)]
      congr 5; omega
    · rw [if_neg h]
      by_cases h2 : 64 - k ≤ i ∧ i < 64
      · rw [if_pos h2, if_pos (by omega)]
      · rw [if_neg h2, if_neg (by omega)]
theorem pl_0 (n : Nat) : (placesN n)[0]? = some (UInt8.ofNat (n / 2 ^ 56 % 256)) := by rfl
theorem pl_1 (n : Nat) : (placesN n)[1]? = some (UInt8.ofNat (n / 2 ^ 48 % 256)) := by rfl
theorem pl_2 (n : Nat) : (placesN n)[2]? = some (UInt8.ofNat (n / 2 ^ 40 % 256)) := by rfl
theorem pl_3 (n : Nat) : (placesN n)[3]? = some (UInt8.ofNat (n / 2 ^ 32 % 256)) := by rfl
theorem pl_4 (n : Nat) : (placesN n)[4]? = some (UInt8.ofNat (n / 2 ^ 24 % 256)) := by rfl
theorem pl_5 (n : Nat) : (placesN n)[5]? = some (UInt8.ofNat (n / 2 ^ 16 % 256)) := by rfl
theorem pl_6 (n : Nat) : (placesN n)[6]? = some (UInt8.ofNat (n / 2 ^ 8 % 256)) := by rfl
theorem pl_7 (n : Nat) : (placesN n)[7]? = some (UInt8.ofNat (n / 2 ^ 0 % 256)) := by rw [Nat.pow_zero, Nat.div_one]; rfl
theorem placesN_len (n : Nat) : (placesN n).length = 8 := rfl
theorem putK_all (base : List UInt8) (n : Nat) (hb : base.length = 64) : putK base n 8 = base.take 56 ++ placesN n := by
  apply List.ext_getElem?
  intro i
  rw [putK_at _ _ _ hb (by omega)]
  by_cases h : i < 56
  · rw [if_neg (by omega), List.getElem?_append_left (by rw [List.length_take]; omega), List.getElem?_take, if_pos h]
  · rw [List.getElem?_append_right (by rw [List.length_take]; omega), List.length_take, hb]
    by_cases h2 : i < 64
    · rw [if_pos (by omega)]
      have hc : i = 56 ∨ i = 57 ∨ i = 58 ∨ i = 59 ∨ i = 60 ∨ i = 61 ∨ i = 62 ∨ i = 63 := by omega
      rcases hc with rfl | rfl | rfl | rfl | rfl | rfl | rfl | rfl
      · rw [show 8 * (63 - 56) = 56 from rfl, show 56 - min 56 64 = 0 from rfl]; exact (pl_0 n).symm
      · rw [show 8 * (63 - 57) = 48 from rfl, show 57 - min 56 64 = 1 from rfl]; exact (pl_1 n).symm
      · rw [show 8 * (63 - 58) = 40 from rfl, show 58 - min 56 64 = 2 from rfl]; exact (pl_2 n).symm
      · rw [show 8 * (63 - 59) = 32 from rfl, show 59 - min 56 64 = 3 from rfl]; exact (pl_3 n).symm
      · rw [show 8 * (63 - 60) = 24 from rfl, show 60 - min 56 64 = 4 from rfl]; exact (pl_4 n).symm
      · rw [show 8 * (63 - 61) = 16 from rfl, show 61 - min 56 64 = 5 from rfl]; exact (pl_5 n).symm
      · rw [show 8 * (63 - 62) = 8 from rfl, show 62 - min 56 64 = 6 from rfl]; exact (pl_6 n).symm
      · rw [show 8 * (63 - 63) = 0 from rfl, show 63 - min 56 64 = 7 from rfl]; exact (pl_7 n).symm
    · rw [if_neg (by omega), List.getElem?_eq_none (by omega)]
      rw [List.getElem?_eq_none (by rw [placesN_len]; omega)]
theorem len57 : Tryd.prog.arrayLen 94 = 64 := by kernel_rfl
theorem elem57 : Tryd.prog.elem 94 = 5 := by kernel_rfl
theorem und57 : Tryd.prog.underlying 94 = some (.array (Tryd.prog.arrayLen 94) (Tryd.prog.elem 94)) := by kernel_rfl
theorem slice64 (w : World) (b n : Nat) (hn : n < 64) : (Instr.sliceAt 94 (.pointer (some ⟨b, 0, none⟩)) (some (.int .i64 (n : Int))) none none).run Tryd.prog w = .ok (.slice (some ⟨b, n, none⟩) (64 - n) (64 - n)) w := by
  rw [run_sliceAt_array_l w 94 _ und57 .i64 (n : Int) (by omega) (by rw [len57]; omega), len57, elem57, Tryd.sizeOf5]
  have e : (64 : Nat) ≠ n := by omega
  simp [slicedAt, Result.andThen, e, Addr.add]
  omega
theorem slice64_all (w : World) (b : Nat) : (Instr.sliceAt 94 (.pointer (some ⟨b, 0, none⟩)) none none none).run Tryd.prog w = .ok (.slice (some ⟨b, 0, none⟩) 64 64) w := by
  rw [run_sliceAt_array_all w 94 _ und57, len57, elem57, Tryd.sizeOf5]
  simp [slicedAt, Result.andThen, Addr.add]
/-- The block with the bit that is 1 behind its first n bytes, noughts behind. -/
def oneB (l : List UInt8) (n : Nat) : List UInt8 := (l.take n ++ List.replicate (64 - n) 0).set n 128
theorem oneB_len {l : List UInt8} {n : Nat} (hl : l.length = 64) (hn : n < 64) : (oneB l n).length = 64 := by
  unfold oneB; rw [List.length_set, List.length_append, List.length_take, List.length_replicate]; omega
def zerosL : List UInt8 := List.replicate 64 0
def closedN (v : Eight) (l : List UInt8) (n sz : Nat) : Eight :=
  if n < 56 then blockN ((oneB l n).take 56 ++ placesN (8 * sz)) 0 v else blockN (zerosL.take 56 ++ placesN (8 * sz)) 0 (blockN (oneB l n) 0 v)
theorem addE_lt (x y : Eight) : ∀ z ∈ (addE x y).list, z < two32 := by
  have hm : ∀ z : Nat, z % two32 < two32 := fun z => Nat.mod_lt _ (by unfold two32; omega)
  intro z hz
  unfold addE at hz
  simp only [Eight.list, List.mem_cons, List.not_mem_nil, or_false] at hz
  rcases hz with rfl | rfl | rfl | rfl | rfl | rfl | rfl | rfl <;> exact hm _
theorem blockN_lt (b : List UInt8) (o : Nat) (v : Eight) : ∀ x ∈ (blockN b o v).list, x < two32 := addE_lt v _
set_option maxRecDepth 100000 in
set_option maxHeartbeats 4000000 in
theorem closed_lo (v : Eight) (l : List UInt8) (n sz : Nat) (w : World) (hv : ∀ x ∈ v.list, x < two32) (hl : l.length = 64) (hn : n < 56) (hs : sz < 2305843009213693952) (hE : Env w) : Calls Tryd.prog 53 #[.agg (wv v.list).toArray, .agg (bv l).toArray, .int .i64 n, .int .u64 sz] w fun e w' => e = .returned (.agg (wv (closedN v l n sz).list).toArray) ∧ Below w.heap.size w w' := by
  have HCN : Hid (closedN v l n sz = blockN ((oneB l n).take 56 ++ placesN (8 * sz)) 0 v) := Lib.hid (if_pos hn)
  have hr1 := RowAt.new w 93 (wv v.list)
  have hr2 := RowAt.new (w.alloc (.cells (wv v.list).toArray 93)) 94 (bv l)
  have hr3 := RowAt.new ((w.alloc (.cells (wv v.list).toArray 93)).alloc (.cells (bv l).toArray 94)) 93 (wv zeros8)
  have hbw := (((Below.refl w.heap.size w).alloc (Nat.le_refl _) (.cells (wv v.list).toArray 93)).alloc (by simp) (.cells (bv l).toArray 94)).alloc (by simp; omega) (.cells (wv zeros8).toArray 93)
  replace hr1 := (hr1.kept (Below.heap_alloc _ (.cells (bv l).toArray 94) _ hr1.lt))
  replace hr1 := (hr1.kept (Below.heap_alloc _ (.cells (wv zeros8).toArray 93) _ hr1.lt))
  replace hr2 := (hr2.kept (Below.heap_alloc _ (.cells (wv zeros8).toArray 93) _ hr2.lt))
  simp only [World.size_alloc] at hr2 hr3
  have HR1 := Lib.hid hr1
  have HR2 := Lib.hid hr2
  have HR3 := Lib.hid hr3
  have HBW := Lib.hid hbw
  have HV := Lib.hid hv
  have HL := Lib.hid hl
  have HE := Lib.hid hE
  have hcl := fun c ty => clear_run hr2 hl (show n < 64 by omega) c ty
  have g1 : decide ((56 : Int) ≤ (n : Int)) = false := by simp; omega
  have hsl := fun W => slice64 W (w.heap.size + 1) n (by omega)
  clear hr1 hr2 hr3 hbw hv hl hE
  go_enter Tryd.func53, Tryd.ntmps53
  go_upto_region 2 with (simp only [hcl])
  clear hcl hsl
  have hc2 := clear_row HR2.out HL.out (show n < 64 by omega)
  have hlen : (l.take n ++ List.replicate (64 - n) 0).length = 64 := by rw [List.length_append, List.length_take, List.length_replicate, HL.out]; omega
  have k1 := HR1.out.kept (World.heap_setCells_other _ (w.heap.size + 1) n (List.replicate (64 - n) (Value.int .u8 0)) HR1.out.lt (by omega))
  have k3 := HR3.out.kept (World.heap_setCells_other _ (w.heap.size + 1) n (List.replicate (64 - n) (Value.int .u8 0)) HR3.out.lt (by omega))
  have kb := below_sets (b := w.heap.size + 1) (show w.heap.size ≤ w.heap.size + 1 by omega) (List.replicate (64 - n) (Value.int .u8 0)) n _ HBW.out
  generalize (((w.alloc (.cells (wv v.list).toArray 93)).alloc (.cells (bv l).toArray 94)).alloc (.cells (wv zeros8).toArray 93)).setCells (w.heap.size + 1) n (List.replicate (64 - n) (Value.int .u8 0)) = w4 at *
  obtain ⟨b1, hb1⟩ : ∃ b1, b1 = w.heap.size := ⟨_, rfl⟩
  obtain ⟨b2, hb2⟩ : ∃ b2, b2 = w.heap.size + 1 := ⟨_, rfl⟩
  obtain ⟨b3, hb3⟩ : ∃ b3, b3 = w.heap.size + 1 + 1 := ⟨_, rfl⟩
  have hd1 : w.heap.size ≤ b1 := by omega
  have hd2 : b1 < b2 := by omega
  have hd3 : b2 < b3 := by omega
  rw [← hb3] at k3 ⊢
  rw [← hb2] at hc2 ⊢
  rw [← hb1] at k1
  rw [show (Value.pointer (some { block := w.heap.size, off := 0 }) : Value) = .pointer (some ⟨b1, 0, none⟩) by rw [hb1]]
  clear HR1 HR2 HR3 HBW hb1 hb2 hb3
  have K1 := Lib.hid k1
  have K3 := Lib.hid k3
  have KB := Lib.hid kb
  have c2 := (hc2.cell n).trans (bv_getD (by rw [hlen]; omega))
  have f2 := hc2.free n
  have hst := hc2.set n (.int .u8 (128 : Nat))
  rw [bv_set _ _ _ (by omega)] at hst
  have HST : Hid (RowAt (w4.setCell ⟨b2, n, none⟩ (.int .u8 128)) b2 94 (bv (oneB l n))) := Lib.hid hst
  have HO : Hid ((oneB l n).length = 64) := Lib.hid (oneB_len HL.out (by omega))
  have M1 := Lib.hid (K1.out.kept (w' := w4.setCell ⟨b2, n, none⟩ (.int .u8 128)) (heap_setCell_other _ _ _ _ (by simp; omega)))
  have M3 := Lib.hid (K3.out.kept (w' := w4.setCell ⟨b2, n, none⟩ (.int .u8 128)) (heap_setCell_other _ _ _ _ (by simp; omega)))
  have MB := Lib.hid (KB.out.setCell (p := ⟨b2, n, none⟩) (by show w.heap.size ≤ b2; omega) (.int .u8 128))
  clear hc2 hst k1 k3 kb hlen K1 K3 KB
  go_upto_region 3 with fail
  clear c2 f2
  generalize w4.setCell ⟨b2, n, none⟩ (.int .u8 128) = w5 at *
  generalize oneB l n = B at *
  go_wp2_with fail
  go_loopw [20] (fun i wr => ∃ k : Nat, k ≤ 8 ∧ i = .int .i64 k ∧ RowAt wr b1 93 (wv v.list) ∧ RowAt wr b3 93 (wv zeros8) ∧ RowAt wr b2 94 (bv (putK B (8 * sz) k)) ∧ Below w.heap.size w wr) (fun i _ => 8 - (intOf i).toNat)
  case atStart => exact ⟨0, by omega, rfl, M1.out, M3.out, HST.out, MB.out⟩
  case round =>
    obtain ⟨k, hk, rfl, hr1, hr3, hr2, hbw⟩ := hrel
    by_cases hlt : k < 8
    · have c2 := (hr2.cell (63 - k)).trans (bv_getD (by rw [putK_len, HO.out]; omega))
      have f2 := hr2.free (63 - k)
      have hst := hr2.set (63 - k) (.int .u8 ((8 * sz / 2 ^ (8 * k) % 256 : Nat) : Int))
      rw [bv_set _ _ _ (by omega)] at hst
      have HST : Hid (RowAt (wr.setCell ⟨b2, 63 - k, none⟩ (.int .u8 ((8 * sz / 2 ^ (8 * k) % 256 : Nat) : Int))) b2 94 (bv (putK B (8 * sz) (k + 1)))) := Lib.hid hst
      have J1 := Lib.hid hr1
      have J3 := Lib.hid hr3
      have JB := Lib.hid hbw
      obtain ⟨q, hq⟩ : ∃ q, q = 63 - k := ⟨_, rfl⟩
      obtain ⟨s, hs'⟩ : ∃ s, s = 8 * k := ⟨_, rfl⟩
      rw [← hq] at c2 f2 HST
      rw [← hs'] at HST
      have hq1 : (63 : Int) - (k : Int) = (q : Int) := by omega
      have hq2 : q < 64 := by omega
      have hs1 : (8 : Int) * (k : Int) = (s : Int) := by omega
      have hs2 : s ≤ 56 := by omega
      have hs3 : IntKind.u64.wrap ((8 : Int) * (sz : Int)) = ((8 * sz : Nat) : Int) := by rw [IntKind.wrap_u64]; omega
      have hs4 : (((8 * sz : Nat) : Int) / 2 ^ s) = ((8 * sz / 2 ^ s : Nat) : Int) := by simp
      have HS4 := Lib.hid hs4
      generalize 8 * sz / 2 ^ s = y at *
      have hs5 : IntKind.u8.wrap (y : Int) = ((y % 256 : Nat) : Int) := by rw [IntKind.wrap_u8]; omega
      generalize (putK B (8 * sz) k).getD q 0 = u at *
      clear hr1 hr3 hr2 hbw hst hq hs'
      go_wp2_with fail
      go_roundw
      case rel =>
        have e : (8 * (sz : Int) / 2 ^ s % 256) = ((y % 256 : Nat) : Int) := by rw [show (8 * (sz : Int)) = ((8 * sz : Nat) : Int) by omega, HS4.out]; omega
        rw [e]
        exact ⟨k + 1, by omega, by go_num, J1.out.kept (heap_setCell_other _ _ _ _ (by simp; omega)), J3.out.kept (heap_setCell_other _ _ _ _ (by simp; omega)), HST.out, JB.out.setCell (by simp; omega) _⟩
      case measure => simp [intOf]; omega
    · have hk8 : k = 8 := by omega
      have hd : decide ((k : Int) < 8) = false := by rw [hk8]; rfl
      rw [hk8, putK_all _ _ HO.out] at hr2
      have hbl : (B.take 56 ++ placesN (8 * sz)).length = 64 := by rw [List.length_append, List.length_take, placesN_len, HO.out]; rfl
      have HT := Lib.hid (fun w hE => taken_any v (B.take 56 ++ placesN (8 * sz)) w HV.out hbl hE)
      have HF := Lib.hid hbl
      obtain ⟨y, hy⟩ : ∃ y, y = blockN (B.take 56 ++ placesN (8 * sz)) 0 v := ⟨_, rfl⟩
      rw [← hy] at HT HCN
      clear hy
      generalize B.take 56 ++ placesN (8 * sz) = F at *
      have c1 := hr1.cells (n := n8) rfl
      have c2 := hr2.cells (n := n64) (by rw [bv_len, hbl]; rfl)
      have J3 := Lib.hid hr3
      have JB := Lib.hid hbw
      clear hk8 hr1 hr2 hr3 hbw hbl hlt
      go_wp2_with fail
      refine (HT.out _ (HE.out.on JB.out)).mono ?_
      rintro e w7 ⟨rfl, hb7⟩
      have hr3 := J3.out.kept (w' := w7) (hb7.block b3 J3.out.lt)
      have HBF := Lib.hid (below_setRow (JB.out.trans (hb7.mono JB.out.size)) (show w.heap.size ≤ b3 by omega) (wv y.list).toArray)
      have HP := Lib.hid (hr3.put (wv y.list))
      have c3 := hr3.write (vs := wv y.list) rfl (wv_one _)
      have zl : (wv y.list).length = n8 := rfl
      clear hb7 hr3 c1 c2
      go_wp2_with fail
      exact bodyPost_ret (v := .agg (wv y.list).toArray) (results_row rfl _ _ rfl Tryd.under93' Tryd.size93 HP.out) rfl ⟨by rw [HCN.out], HBF.out⟩
end Go.Proofs.YtdolonkeanlaoaaDoor
namespace Go.Proofs.YtdolonkeanlaoaaDoor
open Go.RowKit
attribute [local simp high] st_size st_zero b64_size b64_zero id_size id_zero

set_option maxRecDepth 100000 in
set_option maxHeartbeats 4000000 in
theorem closed_hi (v : Eight) (l : List UInt8) (n sz : Nat) (w : World) (hv : ∀ x ∈ v.list, x < two32) (hl : l.length = 64) (hn : 56 ≤ n) (hn2 : n < 64) (hs : sz < 2305843009213693952) (hE : Env w) : Calls Tryd.prog 53 #[.agg (wv v.list).toArray, .agg (bv l).toArray, .int .i64 n, .int .u64 sz] w fun e w' => e = .returned (.agg (wv (closedN v l n sz).list).toArray) ∧ Below w.heap.size w w' := by
  have HCN : Hid (closedN v l n sz = blockN (zerosL.take 56 ++ placesN (8 * sz)) 0 (blockN (oneB l n) 0 v)) := Lib.hid (if_neg (by omega))
  have hr1 := RowAt.new w 93 (wv v.list)
  have hr2 := RowAt.new (w.alloc (.cells (wv v.list).toArray 93)) 94 (bv l)
  have hr3 := RowAt.new ((w.alloc (.cells (wv v.list).toArray 93)).alloc (.cells (bv l).toArray 94)) 93 (wv zeros8)
  have hbw := (((Below.refl w.heap.size w).alloc (Nat.le_refl _) (.cells (wv v.list).toArray 93)).alloc (by simp) (.cells (bv l).toArray 94)).alloc (by simp; omega) (.cells (wv zeros8).toArray 93)
  replace hr1 := (hr1.kept (Below.heap_alloc _ (.cells (bv l).toArray 94) _ hr1.lt))
  replace hr1 := (hr1.kept (Below.heap_alloc _ (.cells (wv zeros8).toArray 93) _ hr1.lt))
  replace hr2 := (hr2.kept (Below.heap_alloc _ (.cells (wv zeros8).toArray 93) _ hr2.lt))
  simp only [World.size_alloc] at hr2 hr3
  have HR1 := Lib.hid hr1
  have HR2 := Lib.hid hr2
  have HR3 := Lib.hid hr3
  have HBW := Lib.hid hbw
  have HV := Lib.hid hv
  have HL := Lib.hid hl
  have HE := Lib.hid hE
  have hcl := fun c ty => clear_run hr2 hl (show n < 64 by omega) c ty
  have g1 : decide ((56 : Int) ≤ (n : Int)) = true := by simp; omega
  have hsl := fun W => slice64 W (w.heap.size + 1) n (by omega)
  clear hr1 hr2 hr3 hbw hv hl hE
  go_enter Tryd.func53, Tryd.ntmps53
  go_upto_region 2 with (simp only [hcl])
  clear hcl hsl
  have hc2 := clear_row HR2.out HL.out (show n < 64 by omega)
  have hlen : (l.take n ++ List.replicate (64 - n) 0).length = 64 := by rw [List.length_append, List.length_take, List.length_replicate, HL.out]; omega
  have k1 := HR1.out.kept (World.heap_setCells_other _ (w.heap.size + 1) n (List.replicate (64 - n) (Value.int .u8 0)) HR1.out.lt (by omega))
  have k3 := HR3.out.kept (World.heap_setCells_other _ (w.heap.size + 1) n (List.replicate (64 - n) (Value.int .u8 0)) HR3.out.lt (by omega))
  have kb := below_sets (b := w.heap.size + 1) (show w.heap.size ≤ w.heap.size + 1 by omega) (List.replicate (64 - n) (Value.int .u8 0)) n _ HBW.out
  generalize (((w.alloc (.cells (wv v.list).toArray 93)).alloc (.cells (bv l).toArray 94)).alloc (.cells (wv zeros8).toArray 93)).setCells (w.heap.size + 1) n (List.replicate (64 - n) (Value.int .u8 0)) = w4 at *
  obtain ⟨b1, hb1⟩ : ∃ b1, b1 = w.heap.size := ⟨_, rfl⟩
  obtain ⟨b2, hb2⟩ : ∃ b2, b2 = w.heap.size + 1 := ⟨_, rfl⟩
  obtain ⟨b3, hb3⟩ : ∃ b3, b3 = w.heap.size + 1 + 1 := ⟨_, rfl⟩
  have hd1 : w.heap.size ≤ b1 := by omega
  have hd2 : b1 < b2 := by omega
  have hd3 : b2 < b3 := by omega
  rw [← hb3] at k3 ⊢
  rw [← hb2] at hc2 ⊢
  rw [← hb1] at k1
  rw [show (Value.pointer (some { block := w.heap.size, off := 0 }) : Value) = .pointer (some ⟨b1, 0, none⟩) by rw [hb1]]
  clear HR1 HR2 HR3 HBW hb1 hb2 hb3
  have K1 := Lib.hid k1
  have K3 := Lib.hid k3
  have KB := Lib.hid kb
  have c2 := (hc2.cell n).trans (bv_getD (by rw [hlen]; omega))
  have f2 := hc2.free n
  have hst := hc2.set n (.int .u8 (128 : Nat))
  rw [bv_set _ _ _ (by omega)] at hst
  have HST : Hid (RowAt (w4.setCell ⟨b2, n, none⟩ (.int .u8 128)) b2 94 (bv (oneB l n))) := Lib.hid hst
  have HO : Hid ((oneB l n).length = 64) := Lib.hid (oneB_len HL.out (by omega))
  have M1 := Lib.hid (K1.out.kept (w' := w4.setCell ⟨b2, n, none⟩ (.int .u8 128)) (heap_setCell_other _ _ _ _ (by simp; omega)))
  have M3 := Lib.hid (K3.out.kept (w' := w4.setCell ⟨b2, n, none⟩ (.int .u8 128)) (heap_setCell_other _ _ _ _ (by simp; omega)))
  have MB := Lib.hid (KB.out.setCell (p := ⟨b2, n, none⟩) (by show w.heap.size ≤ b2; omega) (.int .u8 128))
  clear hc2 hst k1 k3 kb hlen K1 K3 KB
  go_upto_region 3 with fail
  clear c2 f2
  generalize w4.setCell ⟨b2, n, none⟩ (.int .u8 128) = w5 at *
  obtain ⟨v1, hv1⟩ : ∃ v1, v1 = blockN (oneB l n) 0 v := ⟨_, rfl⟩
  rw [← hv1] at HCN
  have HV1 : Hid (∀ x ∈ v1.list, x < two32) := Lib.hid (by rw [hv1]; exact blockN_lt _ _ _)
  have HTK : Hid (∀ w, Env w → Calls Tryd.prog 52 #[.agg (wv v.list).toArray, .agg (bv (oneB l n)).toArray] w fun e w' => e = .returned (.agg (wv v1.list).toArray) ∧ Below w.heap.size w w') := Lib.hid (fun w hE => by rw [hv1]; exact taken_any v (oneB l n) w HV.out HO.out hE)
  clear hv1
  generalize oneB l n = B0 at *
  have c1 := M1.out.cells (n := n8) rfl
  have c2 := HST.out.cells (n := n64) (by rw [bv_len, HO.out]; rfl)
  go_wp2_with fail
  refine (HTK.out _ (HE.out.on MB.out)).mono ?_
  rintro e w6 ⟨rfl, hb6⟩
  have hm1 := M1.out.kept (w' := w6) (hb6.block b1 M1.out.lt)
  have hm2 := HST.out.kept (w' := w6) (hb6.block b2 HST.out.lt)
  have hm3 := M3.out.kept (w' := w6) (hb6.block b3 M3.out.lt)
  have hmb := MB.out.trans (hb6.mono MB.out.size)
  have c3 := hm1.write (vs := wv v1.list) rfl (wv_one _)
  have zl : (wv v1.list).length = n8 := rfl
  have N1 := Lib.hid (hm1.put (wv v1.list))
  have N2 := Lib.hid (hm2.kept (setRow_other w6 b1 b2 (wv v1.list).toArray (by omega)))
  have N3 := Lib.hid (hm3.kept (setRow_other w6 b1 b3 (wv v1.list).toArray (by omega)))
  have NB := Lib.hid (below_setRow hmb (show w.heap.size ≤ b1 by omega) (wv v1.list).toArray)
  clear hb6 hm1 hm2 hm3 hmb c1 c2 M1 M3 MB HST
  go_upto_region 5 with fail
  clear c3
  generalize w6.setRow b1 (wv v1.list).toArray = w7 at *
  have hsl := fun W => slice64_all W b2
  obtain ⟨Z, hZ⟩ : ∃ Z, Z = List.replicate 64 (Value.int .u8 0) := ⟨_, rfl⟩
  have hcl : ∀ c ty, (Builtin.clear_ #[22] ty #[.slice (some ⟨b2, 0, none⟩) 64 c]).run Tryd.prog w7 = .ok (.tuple #[]) (w7.setCells b2 0 Z) := fun c ty => by rw [hZ]; exact clear_run N2.out HO.out (show 0 < 64 by omega) c ty
  have hc2 : RowAt (w7.setCells b2 0 Z) b2 94 (bv zerosL) := by rw [hZ]; exact clear_row N2.out HO.out (show 0 < 64 by omega)
  have HST := Lib.hid hc2
  have M1 := Lib.hid (N1.out.kept (World.heap_setCells_other _ b2 0 Z N1.out.lt (by omega)))
  have M3 := Lib.hid (N3.out.kept (World.heap_setCells_other _ b2 0 Z N3.out.lt (by omega)))
  have MB := Lib.hid (below_sets (b := b2) (show w.heap.size ≤ b2 by omega) Z 0 _ NB.out)
  clear hc2 N1 N2 N3 NB zl HO hZ
  go_upto_region 6 with (simp only [hcl])
  clear hcl hsl
  generalize w7.setCells b2 0 Z = w8 at *
  have HO : Hid (zerosL.length = 64) := Lib.hid rfl
  generalize zerosL = B at *
  go_wp2_with fail
  go_loopw [20] (fun i wr => ∃ k : Nat, k ≤ 8 ∧ i = .int .i64 k ∧ RowAt wr b1 93 (wv v1.list) ∧ RowAt wr b3 93 (wv zeros8) ∧ RowAt wr b2 94 (bv (putK B (8 * sz) k)) ∧ Below w.heap.size w wr) (fun i _ => 8 - (intOf i).toNat)
  case atStart => exact ⟨0, by omega, rfl, M1.out, M3.out, HST.out, MB.out⟩
  case round =>
    obtain ⟨k, hk, rfl, hr1, hr3, hr2, hbw⟩ := hrel
    by_cases hlt : k < 8
    · have c2 := (hr2.cell (63 - k)).trans (bv_getD (by rw [putK_len, HO.out]; omega))
      have f2 := hr2.free (63 - k)
      have hst := hr2.set (63 - k) (.int .u8 ((8 * sz / 2 ^ (8 * k) % 256 : Nat) : Int))
      rw [bv_set _ _ _ (by omega)] at hst
      have HST : Hid (RowAt (wr.setCell ⟨b2, 63 - k, none⟩ (.int .u8 ((8 * sz / 2 ^ (8 * k) % 256 : Nat) : Int))) b2 94 (bv (putK B (8 * sz) (k + 1)))) := Lib.hid hst
      have J1 := Lib.hid hr1
      have J3 := Lib.hid hr3
      have JB := Lib.hid hbw
      obtain ⟨q, hq⟩ : ∃ q, q = 63 - k := ⟨_, rfl⟩
      obtain ⟨s, hs'⟩ : ∃ s, s = 8 * k := ⟨_, rfl⟩
      rw [← hq] at c2 f2 HST
      rw [← hs'] at HST
      have hq1 : (63 : Int) - (k : Int) = (q : Int) := by omega
      have hq2 : q < 64 := by omega
      have hs1 : (8 : Int) * (k : Int) = (s : Int) := by omega
      have hs2 : s ≤ 56 := by omega
      have hs3 : IntKind.u64.wrap ((8 : Int) * (sz : Int)) = ((8 * sz : Nat) : Int) := by rw [IntKind.wrap_u64]; omega
      have hs4 : (((8 * sz : Nat) : Int) / 2 ^ s) = ((8 * sz / 2 ^ s : Nat) : Int) := by simp
      have HS4 := Lib.hid hs4
      generalize 8 * sz / 2 ^ s = y at *
      have hs5 : IntKind.u8.wrap (y : Int) = ((y % 256 : Nat) : Int) := by rw [IntKind.wrap_u8]; omega
      generalize (putK B (8 * sz) k).getD q 0 = u at *
      clear hr1 hr3 hr2 hbw hst hq hs'
      go_wp2_with fail
      go_roundw
      case rel =>
        have e : (8 * (sz : Int) / 2 ^ s % 256) = ((y % 256 : Nat) : Int) := by rw [show (8 * (sz : Int)) = ((8 * sz : Nat) : Int) by omega, HS4.out]; omega
        rw [e]
        exact ⟨k + 1, by omega, by go_num, J1.out.kept (heap_setCell_other _ _ _ _ (by simp; omega)), J3.out.kept (heap_setCell_other _ _ _ _ (by simp; omega)), HST.out, JB.out.setCell (by simp; omega) _⟩
      case measure => simp [intOf]; omega
    · have hk8 : k = 8 := by omega
      have hd : decide ((k : Int) < 8) = false := by rw [hk8]; rfl
      rw [hk8, putK_all _ _ HO.out] at hr2
      have hbl : (B.take 56 ++ placesN (8 * sz)).length = 64 := by rw [List.length_append, List.length_take, placesN_len, HO.out]; rfl
      have HT := Lib.hid (fun w hE => taken_any v1 (B.take 56 ++ placesN (8 * sz)) w HV1.out hbl hE)
      have HF := Lib.hid hbl
      obtain ⟨y, hy⟩ : ∃ y, y = blockN (B.take 56 ++ placesN (8 * sz)) 0 v1 := ⟨_, rfl⟩
      rw [← hy] at HT HCN
      clear hy
      generalize B.take 56 ++ placesN (8 * sz) = F at *
      have c1 := hr1.cells (n := n8) rfl
      have c2 := hr2.cells (n := n64) (by rw [bv_len, hbl]; rfl)
      have J3 := Lib.hid hr3
      have JB := Lib.hid hbw
      clear hk8 hr1 hr2 hr3 hbw hbl hlt
      go_wp2_with fail
      refine (HT.out _ (HE.out.on JB.out)).mono ?_
      rintro e w7 ⟨rfl, hb7⟩
      have hr3 := J3.out.kept (w' := w7) (hb7.block b3 J3.out.lt)
      have HBF := Lib.hid (below_setRow (JB.out.trans (hb7.mono JB.out.size)) (show w.heap.size ≤ b3 by omega) (wv y.list).toArray)
      have HP := Lib.hid (hr3.put (wv y.list))
      have c3 := hr3.write (vs := wv y.list) rfl (wv_one _)
      have zl : (wv y.list).length = n8 := rfl
      clear hb7 hr3 c1 c2
      go_wp2_with fail
      exact bodyPost_ret (v := .agg (wv y.list).toArray) (results_row rfl _ _ rfl Tryd.under93' Tryd.size93 HP.out) rfl ⟨by rw [HCN.out], HBF.out⟩
theorem closed_any (v : Eight) (l : List UInt8) (n sz : Nat) (w : World) (hv : ∀ x ∈ v.list, x < two32) (hl : l.length = 64) (hn : n < 64) (hs : sz < 2305843009213693952) (hE : Env w) : Calls Tryd.prog 53 #[.agg (wv v.list).toArray, .agg (bv l).toArray, .int .i64 n, .int .u64 sz] w fun e w' => e = .returned (.agg (wv (closedN v l n sz).list).toArray) ∧ Below w.heap.size w w' := by
  by_cases h : n < 56
  · exact closed_lo v l n sz w hv hl h hs hE
  · exact closed_hi v l n sz w hv hl (by omega) hn hs hE
theorem closedN_lt (v : Eight) (l : List UInt8) (n sz : Nat) : ∀ x ∈ (closedN v l n sz).list, x < two32 := by
  unfold closedN
  split
  · exact blockN_lt _ _ _
  · exact blockN_lt _ _ _
end Go.Proofs.YtdolonkeanlaoaaDoor
namespace Go.Proofs.YtdolonkeanlaoaaDoor
open Go.RowKit

theorem getD_block (b : List UInt8) (o j : Nat) (h : j < 64) : ((b.drop o).take 64).getD j 0 = b.getD (o + j) 0 := by
  simp only [List.getD]
  rw [List.getElem?_take, if_pos h, List.getElem?_drop]
theorem wordAt_block (b : List UInt8) (o j : Nat) (h : j + 3 < 64) : wordAt ((b.drop o).take 64) j = wordAt b (o + j) := by
  unfold wordAt
  rw [getD_block _ _ _ (by omega), getD_block _ _ _ (by omega), getD_block _ _ _ (by omega), getD_block _ _ _ h]
  rfl
theorem schedL_block (b : List UInt8) (o i : Nat) : schedL ((b.drop o).take 64) 0 i = schedL b o i := by
  induction i with
  | zero => rfl
  | succ i ih =>
    rw [schedL, schedL]
    simp only [ih]
    by_cases h : i < 16
    · rw [if_pos h, if_pos h, Nat.zero_add, wordAt_block _ _ _ (by omega)]
    · rw [if_neg h, if_neg h]
theorem blockN_block (b : List UInt8) (o : Nat) (v : Eight) : blockN ((b.drop o).take 64) 0 v = blockN b o v := by
  unfold blockN
  rw [schedL_block]
theorem blocksN_succ (b : List UInt8) (n : Nat) : blocksN b (n + 1) = blockN ((b.drop (64 * n)).take 64) 0 (blocksN b n) := by
  rw [blockN_block]; rfl
theorem blocksN_app (t u : List UInt8) (n : Nat) (h : 64 * n ≤ t.length) : blocksN (t ++ u) n = blocksN t n := by
  induction n with
  | zero => rfl
  | succ n ih =>
    rw [blocksN_succ, blocksN_succ, ih (by omega), List.drop_append_of_le_length (by omega), List.take_append_of_le_length (by rw [List.length_drop]; omega)]
theorem startE_lt : ∀ x ∈ startE.list, x < two32 := by decide
theorem blocksN_lt (b : List UInt8) (n : Nat) : ∀ x ∈ (blocksN b n).list, x < two32 := by
  cases n with
  | zero => exact startE_lt
  | succ n => rw [blocksN_succ]; exact blockN_lt _ _ _
theorem oneB_eq {l : List UInt8} {n : Nat} (hl : l.length = 64) (hn : n < 64) : oneB l n = l.take n ++ 128 :: List.replicate (63 - n) 0 := by
  unfold oneB
  rw [List.set_append_right _ _ (by rw [List.length_take]; omega), List.length_take, show n - min n l.length = 0 by omega, show 64 - n = (63 - n) + 1 by omega, List.replicate_succ, List.set_cons_zero]
theorem take64 (L : List UInt8) (h : L.length ≤ 64) : L.take 64 = L := List.take_of_length_le h
/-- What closes the sum of what was read. -/
theorem closed_pad (t blk : List UInt8) (hb : blk.length = 64) (ht : blk.take (t.length % 64) = t.drop (64 * (t.length / 64))) :
    closedN (blocksN t (t.length / 64)) blk (t.length % 64) t.length = blocksN (padL t) ((padL t).length / 64) := by
  have hr : t.length % 64 < 64 := Nat.mod_lt _ (by omega)
  have hp := padL_len t
  have hq : 64 * (t.length / 64) ≤ t.length := by omega
  have hpad : padL t = t ++ ([128] ++ List.replicate (fillN t.length) 0 ++ placesN (8 * t.length)) := by
    unfold padL; rw [Nat.mul_comm t.length 8]; simp
  have hd : (padL t).drop (64 * (t.length / 64)) = blk.take (t.length % 64) ++ ([128] ++ List.replicate (fillN t.length) 0 ++ placesN (8 * t.length)) := by
    rw [hpad, List.drop_append_of_le_length hq, ht]
  have hbq : blocksN (padL t) (t.length / 64) = blocksN t (t.length / 64) := by rw [hpad, blocksN_app _ _ _ hq]
  have hone := oneB_eq hb hr
  have htl : (blk.take (t.length % 64)).length = t.length % 64 := by rw [List.length_take, hb]; omega
  unfold closedN
  by_cases h : t.length % 64 < 56
  · rw [if_pos h]
    have hf : fillN t.length = 55 - t.length % 64 := by unfold fillN; omega
    have hn : (padL t).length / 64 = t.length / 64 + 1 := by omega
    rw [hn, blocksN_succ, hbq, hd, hf, hone]
    congr 1
    rw [take64 _ (by simp only [List.length_append, List.length_cons, List.length_nil, List.length_replicate, placesN_len, htl]; omega)]
    rw [List.take_append, htl, show (blk.take (t.length % 64)).take 56 = blk.take (t.length % 64) from List.take_of_length_le (by rw [htl]; omega)]
    obtain ⟨m, hm⟩ : ∃ m, m = 55 - t.length % 64 := ⟨_, rfl⟩
    rw [show 56 - t.length % 64 = m + 1 by omega, ← hm, List.take_succ_cons, List.take_replicate, show min m (63 - t.length % 64) = m by omega]
    simp
  · rw [if_neg h]
    have hf : fillN t.length = 119 - t.length % 64 := by unfold fillN; omega
    have hn : (padL t).length / 64 = t.length / 64 + 1 + 1 := by omega
    rw [hn, blocksN_succ, blocksN_succ, hbq, hd]
    have hd2 : (padL t).drop (64 * (t.length / 64 + 1)) = List.replicate 56 0 ++ placesN (8 * t.length) := by
      rw [show 64 * (t.length / 64 + 1) = 64 * (t.length / 64) + 64 by omega, ← List.drop_drop, hd, hf]
      rw [List.drop_append, htl, List.drop_of_length_le (by rw [htl]; omega), List.nil_append]
      obtain ⟨m, hm⟩ : ∃ m, m = 63 - t.length % 64 := ⟨_, rfl⟩
      rw [show 64 - t.length % 64 = m + 1 by omega, List.append_assoc, List.singleton_append, List.drop_succ_cons, List.drop_append_of_le_length (by rw [List.length_replicate]; omega), List.drop_replicate, show 119 - t.length % 64 - m = 56 by omega]
    rw [hd2, hf, hone]
    have e1 : (zerosL.take 56 ++ placesN (8 * t.length)) = (List.replicate 56 0 ++ placesN (8 * t.length)).take 64 := by
      rw [take64 _ (by rw [List.length_append, List.length_replicate, placesN_len]; exact Nat.le_refl _)]
      rfl
    have e2 : blk.take (t.length % 64) ++ 128 :: List.replicate (63 - t.length % 64) 0 = (blk.take (t.length % 64) ++ ([128] ++ List.replicate (119 - t.length % 64) 0 ++ placesN (8 * t.length))).take 64 := by
      rw [List.take_append, htl, show (blk.take (t.length % 64)).take 64 = blk.take (t.length % 64) from List.take_of_length_le (by rw [htl]; omega)]
      congr 1
      obtain ⟨m, hm⟩ : ∃ m, m = 63 - t.length % 64 := ⟨_, rfl⟩
      rw [show 64 - t.length % 64 = m + 1 by omega, ← hm, List.append_assoc, List.singleton_append, List.take_succ_cons, List.take_append_of_le_length (by rw [List.length_replicate]; omega), List.take_replicate, show min m (119 - t.length % 64) = m by omega]
    rw [e1, e2]
end Go.Proofs.YtdolonkeanlaoaaDoor
namespace Go.Proofs.YtdolonkeanlaoaaDoor
open Go.RowKit

/-- A slice value whose cells, all in blocks of S, hold slices of these bytes, in blocks of S too. -/
def ChunksC (S : Nat → Prop) (w : World) (v : Value) (ls : List (List UInt8)) : Prop :=
  (v = .slice none 0 0 ∧ ls = []) ∨ ∃ a cap, v = .slice (some a) ls.length cap ∧ ls.length ≤ cap ∧ cap ≤ maxLen ∧ (ls = [] ∨ S a.block) ∧ ∀ j l, ls[j]? = some l → ∃ vj, w.cell? (a.add j) = some vj ∧ BytesC S w vj l
theorem ChunksC.kept {S S' : Nat → Prop} {w w' : World} {v : Value} {ls : List (List UInt8)} (h : ChunksC S w v ls) (hk : ∀ k, S k → S' k ∧ w'.heap[k]? = w.heap[k]?) : ChunksC S' w' v ls := by
  rcases h with h | ⟨a, cap, h1, h2, h3, h4, h5⟩
  · exact Or.inl h
  · refine Or.inr ⟨a, cap, h1, h2, h3, h4.imp_right (fun h => (hk _ h).1), fun j l hj => ?_⟩
    obtain ⟨vj, e1, e2⟩ := h5 j l hj
    rcases h4 with rfl | h4
    · simp at hj
    · exact ⟨vj, (World.cell?_of_block (w := w) (by rw [add_block]; exact (hk _ h4).2)).trans e1, e2.kept hk⟩
theorem ChunksC.shape {S : Nat → Prop} {w : World} {v : Value} {ls : List (List UInt8)} (h : ChunksC S w v ls) : ∃ a cap, v = .slice a ls.length cap := by
  rcases h with ⟨rfl, rfl⟩ | ⟨a, cap, rfl, _⟩
  · exact ⟨none, 0, rfl⟩
  · exact ⟨_, _, rfl⟩
theorem flat_take {ls : List (List UInt8)} {k : Nat} (h : k < ls.length) : (ls.take (k + 1)).flatten = (ls.take k).flatten ++ ls[k] := by
  rw [List.take_succ_eq_append_getElem h, List.flatten_append]; simp
theorem flat_le (ls : List (List UInt8)) (k : Nat) : (ls.take k).flatten.length ≤ ls.flatten.length := by
  conv => rhs; rw [← List.take_append_drop k ls, List.flatten_append, List.length_append]
  omega
end Go.Proofs.YtdolonkeanlaoaaDoor
namespace Go.Proofs.YtdolonkeanlaoaaDoor
open Go.RowKit
attribute [local simp high] st_size st_zero s8_size b64_size b64_zero id_size id_zero

theorem first_load {w : World} (h : Env w) : (loadCellsFrom ⟨0, 0, none⟩ 0 n8 #[]).run Tryd.prog w = .ok (wv startE.list).toArray w := by
  have := run_loadCells_list (P := Tryd.prog) w ⟨0, 0, none⟩ (wv startE.list) (fun j v hv => by
    have hj : j < 8 := (List.getElem?_eq_some_iff.1 hv).1
    have e : (⟨0, 0, none⟩ : Addr).add j = ⟨0, j, none⟩ := by simp [Addr.add]; omega
    rw [e, h.first j hj, ← hv]
    exact (wv_at (l := startE.list) hj).symm)
  have e : (wv startE.list).length = n8 := rfl
  rw [e] at this
  simpa [loadCells] using this
/-- What a sum in the making holds: t was read. -/
structure Read (w : World) (b3 b4 : Nat) (t : List UInt8) (blk : List UInt8) : Prop where
  st : RowAt w b3 93 (wv (blocksN t (t.length / 64)).list)
  row : RowAt w b4 94 (bv blk)
  len : blk.length = 64
  top : blk.take (t.length % 64) = t.drop (64 * (t.length / 64))
theorem Read.kept {w w' : World} {b3 b4 : Nat} {t blk : List UInt8} (h : Read w b3 b4 t blk) (h3 : w'.heap[b3]? = w.heap[b3]?) (h4 : w'.heap[b4]? = w.heap[b4]?) : Read w' b3 b4 t blk := ⟨h.st.kept h3, h.row.kept h4, h.len, h.top⟩
def slenP : Value → Nat
  | .slice _ n _ => n
  | _ => 0
theorem fill_top (t q blk : List UInt8) (n : Nat) (_ : blk.length = 64) (ht : blk.take (t.length % 64) = t.drop (64 * (t.length / 64))) (hn : n ≤ q.length) (_ : t.length % 64 + n ≤ 64) :
    (blk.take (t.length % 64) ++ (q.take n ++ blk.drop (t.length % 64 + n))).take (t.length % 64 + n) = (t ++ q.take n).drop (64 * (t.length / 64)) := by
  have h1 : (q.take n).length = n := by rw [List.length_take]; omega
  have h2 : (t.drop (64 * (t.length / 64))).length = t.length % 64 := by rw [List.length_drop]; omega
  rw [ht, List.drop_append_of_le_length (by omega), ← List.append_assoc, List.take_left' (by rw [List.length_append]; omega)]
theorem b8_size : (Tryd.prog.info? 5).map (·.size) = some 1 := by kernel_rfl
theorem und_bytes : Tryd.prog.underlying 22 = some (.slice (Tryd.prog.elem 22)) := by kernel_rfl
theorem elem_bytes : Tryd.prog.elem 22 = 5 := by kernel_rfl
/-- A slice of bytes cut at its beginning, whether anything is left or not. -/
theorem tail_run {S : Nat → Prop} {w : World} {aa : Addr} {q : List UInt8} {qc n : Nat} (h : BytesC S w (.slice (some aa) q.length qc) q) (hn : n ≤ q.length) :
    ∃ (a' : Option Addr) (c' : Nat), (∀ W, (Instr.sliceAt 22 (.slice (some aa) q.length qc) (some (.int .i64 (n : Int))) none none).run Tryd.prog W = .ok (.slice a' (q.drop n).length c') W) ∧ BytesC S w (.slice a' (q.drop n).length c') (q.drop n) := by
  have hq : (q.drop n).length = q.length - n := List.length_drop
  have hrun : ∀ W, (Instr.sliceAt 22 (.slice (some aa) q.length qc) (some (.int .i64 (n : Int))) none none).run Tryd.prog W = .ok (.slice (if qc = n then some aa else some (aa.add n)) (q.drop n).length (qc - n)) W := by
    intro W
    rw [run_sliceAt_slice W _ _ _ _ _ und_bytes, run_slice_l W _ _ _ _ und_bytes _ _ (by omega) (by omega), elem_bytes, Tryd.sizeOf5]
    simp [sliced, Result.andThen, hq]
  refine ⟨_, _, hrun, ?_⟩
  rcases h with ⟨h1, _⟩ | ⟨a1, c1, h1, h2, h3, h4, h5⟩
  · injection h1 with e; cases e
  · by_cases hc : qc = n
    · have hd : q.drop n = [] := List.drop_eq_nil_of_le (by injection h1 with _ _ e3; omega)
      rw [if_pos hc, hd]
      injection h1 with _ _ e3
      exact Or.inr ⟨aa, _, rfl, Nat.zero_le _, by omega, Or.inl rfl, fun j u hj => by simp [bv] at hj⟩
    · have hlt : n < qc := by injection h1 with _ _ e3; omega
      rw [if_neg hc, hq]
      exact BytesC.drop (Or.inr ⟨a1, c1, h1, h2, h3, h4, h5⟩) n hn hlt
theorem row_kept2 {w w' : World} {b3 b4 : Nat} (h : Below w.heap.size w w') (h3 : b3 < w.heap.size) (h4 : b4 < w.heap.size) : w'.heap[b3]? = w.heap[b3]? ∧ w'.heap[b4]? = w.heap[b4]? := ⟨h.block b3 h3, h.block b4 h4⟩
set_option maxRecDepth 100000 in
set_option maxHeartbeats 8000000 in
theorem sum_any (S : Nat → Prop) (v : Value) (ls : List (List UInt8)) (w : World) (hS : ∀ k, S k → k < w.heap.size) (h : ChunksC S w v ls) (hl : ls.flatten.length ≤ 8388608) (hll : ls.length ≤ 4194304) (hE : Env w) :
    Calls Tryd.prog 25 #[v] w fun e w' => e = .returned (.agg (bv (sumN ls.flatten)).toArray) ∧ Below w.heap.size w w' := by
  have HS := Lib.hid hS
  have H := Lib.hid h
  have HE := Lib.hid hE
  obtain ⟨a, ca, rfl⟩ := h.shape
  have hi2 := IDAt.new w
  have hb1 := (Below.refl w.heap.size w).alloc (Nat.le_refl _) (.cells (bv zeros).toArray 33)
  have HI2 := Lib.hid hi2
  have HB1 := Lib.hid hb1
  have he1 := hE.on hb1
  clear h hS hi2 hb1 hE
  go_enter Tryd.func25, Tryd.ntmps25
  go_upto_region 1 with fail
  have hsz1 : (w.alloc (.cells (bv zeros).toArray 33)).heap.size = w.heap.size + 1 := by simp
  generalize w.alloc (.cells (bv zeros).toArray 33) = w1 at *
  have hf := first_load he1
  have hr3 := RowAt.new w1 93 (wv zeros8)
  have c3 := hr3.write (vs := wv startE.list) rfl (wv_one _)
  have zl : (wv startE.list).length = n8 := rfl
  have HR3 := Lib.hid (hr3.put (wv startE.list))
  have HB3 := Lib.hid (below_setRow (HB1.out.alloc HB1.out.size (.cells (wv zeros8).toArray 93)) HB1.out.size (wv startE.list).toArray)
  have HI3 := Lib.hid ((HI2.out.kept (Below.heap_alloc w1 (.cells (wv zeros8).toArray 93) w.heap.size (by omega))).kept (setRow_other _ w1.heap.size w.heap.size (wv startE.list).toArray (by omega)))
  rw [hsz1] at c3 HR3 HB3 HI3
  clear he1 hr3
  go_upto_region 2 with fail
  clear hf c3 zl
  have hsz2 : ((w1.alloc (.cells (wv zeros8).toArray 93)).setRow (w.heap.size + 1) (wv startE.list).toArray).heap.size = w.heap.size + 2 := by
    simp [World.setRow, hsz1]
  generalize (w1.alloc (.cells (wv zeros8).toArray 93)).setRow (w.heap.size + 1) (wv startE.list).toArray = w2 at *
  have hr4 := RowAt.new w2 94 (bv zerosB)
  have hal := Below.heap_alloc w2 (.cells (bv zerosB).toArray 94)
  have hr3 := HR3.out.kept (hal _ (by omega))
  have hi4 := HI3.out.kept (hal _ (by omega))
  have hb4 := HB3.out.alloc (by omega) (.cells (bv zerosB).toArray 94)
  have hsz3 : (w2.alloc (.cells (bv zerosB).toArray 94)).heap.size = w.heap.size + 3 := by simp [hsz2]
  rw [hsz2] at hr4
  go_upto_region 3 with fail
  generalize w2.alloc (.cells (bv zerosB).toArray 94) = w3 at *
  obtain ⟨b2, hb2⟩ : ∃ b2, b2 = w.heap.size := ⟨_, rfl⟩
  obtain ⟨b3, hb3⟩ : ∃ b3, b3 = w.heap.size + 1 := ⟨_, rfl⟩
  obtain ⟨b4, hb4'⟩ : ∃ b4, b4 = w.heap.size + 2 := ⟨_, rfl⟩
  have hd1 : w.heap.size ≤ b2 := by omega
  have hd2 : b2 < b3 := by omega
  have hd3 : b3 < b4 := by omega
  rw [← hb4'] at hr4 ⊢
  rw [← hb3] at hr3 ⊢
  rw [← hb2] at hi4
  rw [show (Value.pointer (some { block := w.heap.size, off := 0 }) : Value) = .pointer (some ⟨b2, 0, none⟩) by rw [hb2]]
  have RD : Hid (Read w3 b3 b4 [] zerosB) := Lib.hid ⟨hr3, hr4, rfl, rfl⟩
  have RI := Lib.hid hi4
  have RB := Lib.hid hb4
  clear hr3 hr4 hi4 hb4 hb2 hb3 hb4' hal HR3 HI3 HB3 HI2 HB1
  go_wp2_with fail
  go_loopw [5, 6, 13] (fun fi sz i wr => ∃ (k : Nat) (blk : List UInt8), k ≤ ls.length ∧ i = .int .i64 k ∧ fi = .int .i64 (((ls.take k).flatten.length % 64 : Nat) : Int) ∧ sz = .int .u64 ((ls.take k).flatten.length : Int) ∧ Read wr b3 b4 (ls.take k).flatten blk ∧ IDAt wr b2 zeros ∧ Below w.heap.size w wr) (fun _ _ i _ => ls.length - (intOf i).toNat)
  case atStart => exact ⟨0, zerosB, by omega, rfl, rfl, rfl, RD.out, RI.out, RB.out⟩
  case round =>
    obtain ⟨k, blk, hk, rfl, rfl, rfl, hrd, hri, hrb⟩ := hrel
    have HRD := Lib.hid hrd
    have HRI := Lib.hid hri
    have HBE := Lib.hid hrb
    have hsz := hrb.size
    clear hrd hri hrb
    by_cases hlt : k < ls.length
    · rcases H.out with ⟨_, h0⟩ | ⟨aa, ca', h1, _, _, hbk, hca⟩
      · rw [h0] at hlt; simp at hlt
      injection h1 with e1 _ e1c
      subst e1 e1c
      have hblk : aa.block < w.heap.size := by
        rcases hbk with h0 | hbk
        · rw [h0] at hlt; simp at hlt
        · exact HS.out _ hbk
      obtain ⟨vj, e1, e2⟩ := hca k _ (List.getElem?_eq_getElem hlt)
      have d1 := (HBE.out.cell (p := aa.add k) (by rw [add_block]; exact hblk)).trans e1
      have HX := Lib.hid (e2.kept (S' := S) (w' := wr) (fun j hj => ⟨hj, HBE.out.block j (HS.out j hj)⟩))
      have HFT := Lib.hid (flat_take hlt)
      have hf1 := flat_le ls (k + 1)
      rw [flat_take hlt, List.length_append] at hf1
      generalize hfl : (ls.take k).flatten = fl at *
      generalize hpk : ls[k] = pk at *
      have HF1 := Lib.hid hf1
      clear hfl hpk
      obtain ⟨ja, jc, rfl⟩ := e2.shape
      clear e1 e2 hca hbk hf1
      have hu1 : IntKind.u64.wrap (pk.length : Int) = (pk.length : Int) := by have := HF1.out; rw [IntWalk.u64_in _ (by omega)]
      have hu2 : IntKind.u64.wrap ((fl.length : Int) + (pk.length : Int)) = ((fl.length + pk.length : Nat) : Int) := by have := HF1.out; rw [IntWalk.u64_in _ (by omega)]; omega
      go_wp2_with fail
      have hlt' := hlt
      go_loopw [5, 8] (fun fi vp wr => ∃ (p q blk' : List UInt8), pk = p ++ q ∧ BytesC S wr vp q ∧ fi = .int .i64 (((fl ++ p).length % 64 : Nat) : Int) ∧ Read wr b3 b4 (fl ++ p) blk' ∧ IDAt wr b2 zeros ∧ Below w.heap.size w wr) (fun _ vp _ => slenP vp)
      case atStart => exact ⟨[], pk, blk, rfl, HX.out, by simp, by simpa using HRD.out, HRI.out, HBE.out⟩
      case round =>
        obtain ⟨p, q, blk', hpq, hbq, rfl, hrd5, hri5, hrb5⟩ := hrel
        have R5 := Lib.hid hrd5
        have I5 := Lib.hid hri5
        have B5 := Lib.hid hrb5
        have Q5 := Lib.hid hbq
        have hsz5 := hrb5.size
        obtain ⟨qa, qc, rfl⟩ := hbq.shape
        clear hrd5 hri5 hrb5 hbq
        have HPL : Hid (pk.length = p.length + q.length) := Lib.hid (by rw [hpq, List.length_append])
        have HPQ := Lib.hid hpq
        clear hpq
        by_cases hq0 : 0 < q.length
        · obtain ⟨qaa, hqa⟩ : ∃ qaa, qa = some qaa := by
            rcases Q5.out with ⟨_, h0⟩ | ⟨qa', qc', h1, _⟩
            · rw [h0] at hq0; simp at hq0
            · injection h1 with e1 _ _; exact ⟨qa', e1⟩
          subst hqa
          obtain ⟨f, hf⟩ : ∃ f, f = (fl ++ p).length % 64 := ⟨_, rfl⟩
          have hf64 : f < 64 := by omega
          rw [← hf]
          have hsl := fun W => slice64 W b4 f hf64
          have HF := Lib.hid hf
          clear hf
          obtain ⟨n, hn⟩ : ∃ n, n = min q.length (64 - f) := ⟨_, rfl⟩
          have hn1 : 0 < n := by omega
          have hn2 : n ≤ q.length := by omega
          have hn3 : f + n ≤ 64 := by omega
          have hnm : (bv (q.take n)).length = Nat.min q.length (64 - f) := by unfold bv; rw [List.length_map, List.length_take]; show min n q.length = min q.length (64 - f); omega
          have HNM := Lib.hid hnm
          have HN := Lib.hid hn
          clear hnm hn
          go_wp2_with (with_reducible refine wpList_copy_splice (o := ⟨some 28, _, _, _, _, _⟩) rfl (.tmp 26) (.tmp 27) 22 22 rfl 5 Tryd.underlying22 b8_size (some ⟨b4, f, none⟩) (some qaa) (64 - f) (64 - f) q.length qc rfl rfl b4 f (bv blk') 94 R5.out.row.blk (bv (q.take n)) HNM.out ?c1 ?c2 ?c3 b4 wr (Below.refl _ _) (Nat.le_refl _) ?_)
          case c1 =>
            intro _
            rcases Q5.out with ⟨_, h0⟩ | ⟨qa', qc', h1, _, _, _, hca⟩
            · rw [h0] at hq0; simp at hq0
            injection h1 with e1 _ _
            cases e1
            exact fun j v hj => hca j v (by rw [bv_take, List.getElem?_take] at hj; split at hj; exact hj; simp at hj)
          case c2 => have := R5.out.len; rw [bv_len, bv_len, List.length_take]; omega
          case c3 => exact bv_one _
          intro w6 hg6 hb6
          have e6 : splice (bv blk') f (bv (q.take n)) = bv (blk'.take f ++ (q.take n ++ blk'.drop (f + n))) := by
            have e : (bv (q.take n)).length = n := by rw [bv_len, List.length_take]; omega
            unfold splice
            rw [e]
            simp only [bv_append, bv_take, bv_drop]
          have R6 : Hid (RowAt w6 b4 94 (bv (blk'.take f ++ (q.take n ++ blk'.drop (f + n))))) := Lib.hid ⟨by rw [← e6]; exact hg6.out⟩
          have S6 := Lib.hid (R5.out.st.kept (hb6.block b3 hd3))
          have I6 := Lib.hid (I5.out.kept (hb6.block b2 (by omega)))
          have B6 := Lib.hid (B5.out.trans (hb6.mono (by omega)))
          have Q6 := Lib.hid (Q5.out.kept (S' := S) (w' := w6) (fun j hj => ⟨hj, hb6.block j (Nat.lt_trans (HS.out j hj) (by omega))⟩))
          have T6 := Lib.hid (fill_top (fl ++ p) q blk' n R5.out.len R5.out.top hn2 (by rw [← HF.out]; exact hn3))
          have L6 : Hid ((bv (q.take n)).length = n) := Lib.hid (by rw [bv_len, List.length_take]; omega)
          clear hg6 hb6 e6
          rw [L6.out]
          have K6 : Hid ((blk'.take f ++ (q.take n ++ blk'.drop (f + n))).length = 64) := Lib.hid (by have := R5.out.len; rw [List.length_append, List.length_append, List.length_take, List.length_take, List.length_drop]; omega)
          rw [← HF.out] at T6
          generalize blk'.take f ++ (q.take n ++ blk'.drop (f + n)) = blk6 at *
          clear R5 I5 B5 Q5 HX
          have hw1 : IntKind.i64.wrap ((f : Int) + (n : Int)) = ((f + n : Nat) : Int) := by rw [IntWalk.i64_in _ (by omega)]; omega
          obtain ⟨ta, tc, hts, htb⟩ := tail_run Q6.out hn2
          have HTB := Lib.hid htb
          clear htb
          have hml : (q.drop n).length < q.length := by rw [List.length_drop]; omega
          have PQ : Hid (pk = (p ++ q.take n) ++ q.drop n) := Lib.hid (by rw [HPQ.out, List.append_assoc, List.take_append_drop])
          have HML := Lib.hid hml
          clear hml
          generalize q.drop n = qd at *
          by_cases h64 : f + n = 64
          · have hle : ((f : Int) + (n : Int)) = 64 := by omega
            have hl0 := HF.out
            have hlq : (q.take n).length = n := by rw [List.length_take]; omega
            have hlen : (fl ++ (p ++ q.take n)).length = (fl ++ p).length + n := by rw [← List.append_assoc, List.length_append, hlq]
            have RM : Hid ((fl ++ (p ++ q.take n)).length % 64 = 0) := Lib.hid (by rw [hlen]; omega)
            have RQ : Hid ((fl ++ (p ++ q.take n)).length / 64 = (fl ++ p).length / 64 + 1) := Lib.hid (by rw [hlen]; omega)
            have RT : Hid (blk6 = (fl ++ (p ++ q.take n)).drop (64 * ((fl ++ p).length / 64))) := Lib.hid (by
              have := T6.out
              rw [h64, List.take_of_length_le (Nat.le_of_eq K6.out)] at this
              rw [this, List.append_assoc])
            obtain ⟨v1, hv1⟩ : ∃ v1, v1 = blockN blk6 0 (blocksN (fl ++ p) ((fl ++ p).length / 64)) := ⟨_, rfl⟩
            have RV : Hid (blocksN (fl ++ (p ++ q.take n)) ((fl ++ (p ++ q.take n)).length / 64) = v1) := Lib.hid (by
              rw [hv1, RQ.out, blocksN_succ, ← RT.out, List.take_of_length_le (Nat.le_of_eq K6.out), ← List.append_assoc, blocksN_app _ _ _ (by omega)])
            have RE : Hid ((fl ++ (p ++ q.take n)).drop (64 * ((fl ++ (p ++ q.take n)).length / 64)) = []) := Lib.hid (List.drop_eq_nil_of_le (by have := RM.out; omega))
            have YL := Lib.hid (blocksN_lt (fl ++ p) ((fl ++ p).length / 64))
            obtain ⟨y, hy⟩ : ∃ y, y = blocksN (fl ++ p) ((fl ++ p).length / 64) := ⟨_, rfl⟩
            rw [← hy] at YL hv1 S6
            have HTK : Hid (∀ w, Env w → Calls Tryd.prog 52 #[.agg (wv y.list).toArray, .agg (bv blk6).toArray] w fun e w' => e = .returned (.agg (wv v1.list).toArray) ∧ Below w.heap.size w w') := Lib.hid (fun w hE => by rw [hv1]; exact taken_any y blk6 w YL.out K6.out hE)
            clear hl0 hlq hlen hv1 hy
            have c1 := S6.out.cells (n := n8) rfl
            have c2 := R6.out.cells (n := n64) (by rw [bv_len, K6.out]; rfl)
            go_wp2_with fail
            refine (HTK.out _ (HE.out.on B6.out)).mono ?_
            rintro e w7 ⟨rfl, hb7⟩
            have hm1 := S6.out.kept (w' := w7) (hb7.block b3 S6.out.lt)
            have hm2 := R6.out.kept (w' := w7) (hb7.block b4 R6.out.lt)
            have hm3 := I6.out.kept (hb7.block b2 (Nat.lt_trans hd2 S6.out.lt))
            have hmb := B6.out.trans (hb7.mono B6.out.size)
            have hmq := HTB.out.kept (S' := S) (w' := w7) (fun j hj => ⟨hj, hb7.block j (Nat.lt_of_lt_of_le (HS.out j hj) B6.out.size)⟩)
            have c3 := hm1.write (vs := wv v1.list) rfl (wv_one _)
            have zl : (wv v1.list).length = n8 := rfl
            have N1 := Lib.hid (hm1.put (wv v1.list))
            have N2 := Lib.hid (hm2.kept (setRow_other w7 b3 b4 (wv v1.list).toArray (by omega)))
            have N3 := Lib.hid (hm3.kept (setRow_other w7 b3 b2 (wv v1.list).toArray (by omega)))
            have NB := Lib.hid (below_setRow hmb (show w.heap.size ≤ b3 by omega) (wv v1.list).toArray)
            have NQ := Lib.hid (hmq.kept (S' := S) (w' := w7.setRow b3 (wv v1.list).toArray) (fun j hj => ⟨hj, setRow_other w7 b3 j (wv v1.list).toArray (by have := HS.out j hj; omega)⟩))
            clear hb7 hm1 hm2 hm3 hmb hmq c1 c2
            go_wp2_with fail
            go_roundw
            case rel =>
              refine ⟨p ++ q.take n, qd, blk6, PQ.out, NQ.out, by rw [RM.out]; rfl, ⟨?_, N2.out, K6.out, ?_⟩, N3.out, NB.out⟩
              · rw [RV.out]; exact N1.out
              · rw [RM.out, RE.out]; rfl
            case measure => exact HML.out
          · have hne : ((f : Int) + (n : Int)) ≠ 64 := by omega
            have RN : Hid (Read w6 b3 b4 (fl ++ (p ++ q.take n)) blk6 ∧ (fl ++ (p ++ q.take n)).length % 64 = f + n) := by
              have hl0 := HF.out
              have hlq : (q.take n).length = n := by rw [List.length_take]; omega
              have hlen : (fl ++ (p ++ q.take n)).length = (fl ++ p).length + n := by rw [← List.append_assoc, List.length_append, hlq]
              have hm : (fl ++ (p ++ q.take n)).length % 64 = f + n := by rw [hlen]; omega
              have hd : (fl ++ (p ++ q.take n)).length / 64 = (fl ++ p).length / 64 := by rw [hlen]; omega
              refine Lib.hid ⟨⟨?_, R6.out, K6.out, ?_⟩, hm⟩
              · rw [hd, ← List.append_assoc, blocksN_app _ _ _ (by omega)]; exact S6.out
              · rw [hm, hd, ← List.append_assoc]
                have := T6.out
                exact this
            go_wp2_with fail
            go_roundw
            case rel => exact ⟨p ++ q.take n, qd, blk6, PQ.out, HTB.out, by rw [RN.out.2]; rfl, RN.out.1, I6.out, B6.out⟩
            case measure => exact HML.out
        · have hqn : q = [] := List.length_eq_zero_iff.1 (by omega)
          have hpp : pk = p := by rw [HPQ.out, hqn, List.append_nil]
          have hf2 : (ls.take (k + 1)).flatten = fl ++ p := by rw [HFT.out, hpp]
          have F2 := Lib.hid hf2
          have L2 : Hid ((fl.length : Int) + (pk.length : Int) = (((fl ++ p).length : Nat) : Int)) := Lib.hid (by rw [hpp, List.length_append]; omega)
          clear hqn hpp hf2
          go_wp2_with fail
          go_roundw
          case rel => exact ⟨k + 1, blk', by omega, by go_num, by rw [F2.out], by rw [F2.out, L2.out], by rw [F2.out]; exact R5.out, I5.out, B5.out⟩
          case measure => simp [intOf]; omega
    · have hkl : k = ls.length := by omega
      have htk : (ls.take k).flatten = ls.flatten := by rw [hkl, List.take_length]
      have hd : decide ((k : Int) < (ls.length : Int)) = false := by rw [hkl]; simp
      rw [htk] at HRD ⊢
      clear hkl htk
      have HLT := Lib.hid hlt
      clear hlt
      obtain ⟨t, ht⟩ : ∃ t, t = ls.flatten := ⟨_, rfl⟩
      have HTT := Lib.hid ht
      rw [← ht] at HRD hl ⊢
      clear ht
      obtain ⟨y, hy⟩ : ∃ y, y = blocksN t (t.length / 64) := ⟨_, rfl⟩
      obtain ⟨z, hz⟩ : ∃ z, z = closedN y blk (t.length % 64) t.length := ⟨_, rfl⟩
      obtain ⟨o, ho⟩ : ∃ o, o = (List.range 32).map (outB z.list) := ⟨_, rfl⟩
      have HO : Hid (sumN t = o) := Lib.hid (by rw [ho, hz, hy, closed_pad t blk HRD.out.len HRD.out.top]; rfl)
      have HOL : Hid (o.length = 32) := Lib.hid (by rw [← HO.out]; exact sumN_len t)
      have HCL : Hid (∀ w, Env w → Calls Tryd.prog 53 #[.agg (wv y.list).toArray, .agg (bv blk).toArray, .int .i64 ((t.length % 64 : Nat) : Int), .int .u64 (t.length : Int)] w fun e w' => e = .returned (.agg (wv z.list).toArray) ∧ Below w.heap.size w w') := Lib.hid (fun w hE => by
        have h1 := closed_any y blk (t.length % 64) t.length w (by rw [hy]; exact blocksN_lt _ _) HRD.out.len (Nat.mod_lt _ (by omega)) (by omega) hE
        rw [← hz] at h1
        exact h1)
      have HIA : Hid (∀ w, Calls Tryd.prog 54 #[.agg (wv z.list).toArray] w fun e w' => e = .returned (.agg (bv o).toArray) ∧ Below w.heap.size w w') := Lib.hid (fun w => by
        have h1 := id_any z w (by rw [hz]; exact closedN_lt _ _ _ _)
        rw [← ho] at h1
        exact h1)
      have S6 := HRD.out.st
      have R6 := HRD.out.row
      rw [← hy] at S6
      have c1 := S6.cells (n := n8) rfl
      have c2 := R6.cells (n := n64) (by rw [bv_len, HRD.out.len]; rfl)
      have LT3 := S6.lt
      clear hy hz ho S6 R6 hl
      generalize t.length % 64 = tm at *
      go_wp2_with fail
      refine (HCL.out _ (HE.out.on HBE.out)).mono ?_
      rintro e w7 ⟨rfl, hb7⟩
      have I7 := Lib.hid (HRI.out.kept (w' := w7) (hb7.block b2 (by omega)))
      have B7 := Lib.hid (HBE.out.trans (hb7.mono HBE.out.size))
      have LT7 := hb7.size
      clear hb7 c1 c2
      go_wp2_with fail
      refine (HIA.out _).mono ?_
      rintro e w8 ⟨rfl, hb8⟩
      have I8 := I7.out.kept (w' := w8) (hb8.block b2 (by omega))
      have B8 := B7.out.trans (hb8.mono B7.out.size)
      have c3 := I8.write (l := o) HOL.out
      have zl : (bv o).length = n32 := by rw [bv_len, HOL.out]; rfl
      have HP := Lib.hid (I8.put (l := o) HOL.out)
      have HBF := Lib.hid (below_setRow B8 (show w.heap.size ≤ b2 by omega) (bv o).toArray)
      clear hb8 I8 B8
      go_wp2_with fail
      exact bodyPost_ret (v := .agg (bv o).toArray) (results_row rfl _ _ rfl Tryd.under33' (by rw [zl]; exact Tryd.size33) ⟨HP.out.blk⟩) rfl ⟨by rw [← HTT.out, HO.out], HBF.out⟩
end Go.Proofs.YtdolonkeanlaoaaDoor
