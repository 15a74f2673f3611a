/- The law of times. -/
import Derived.Test.YtjlpdoppnhcjoaaDoorJnV
import Derived.BigRegion
namespace Go.Proofs.YtjlpdoppnhcjoaaDoor
open Go.RowKit Go.Lib
attribute [local simp high] id_size n32_ne n34_ne file_size file_zero outcome_size n135_ne
def fillF (p : List UInt8) (l : List Value) : Array Value := List.foldl (fun cs x => cs.setIfInBounds (1 + x.snd) x.fst) ((rowL n34 (fileF noFile)).set 0 (.string ⟨p.toArray⟩)).toArray l.zipIdx
theorem fill_size (p : List UInt8) (f : Nat → UInt8) : (fillF p (bv (idL f))).size = 34 := by kernel_rfl
theorem fill_end (p : List UInt8) (f : Nat → UInt8) (x : Nat) : (fillF p (bv (idL f))).setIfInBounds 33 (.float .f64 x) = (rowL n34 (fileF ⟨p, f, x⟩)).toArray := by kernel_rfl
/-- A record's cells, built into a row of one. -/
theorem build_rowl (n : Nat) (Z F : Nat → Value) : List.foldl (fun (cs : Array Value) (x : Value × Nat) => cs.setIfInBounds x.2 x.1) (Array.map (fun x => (rowL n Z)[x % (rowL n Z).length]?.getD default) (Array.range n)) (rowL n F).zipIdx = (rowL n F).toArray := by
  have h1 : (Array.map (fun x => (rowL n Z)[x % (rowL n Z).length]?.getD default) (Array.range n)).size = n := by rw [Array.size_map, Array.size_range]
  generalize Array.map (fun x => (rowL n Z)[x % (rowL n Z).length]?.getD default) (Array.range n) = A at *
  have h2 := rowL_len n F
  generalize rowL n F = l at *
  apply Array.ext_getElem?
  intro j
  rw [fold_at, Nat.zero_add, Nat.sub_zero]
  by_cases h : j < n
  · rw [if_pos ⟨Nat.zero_le _, by omega, by omega⟩]; simp
  · rw [if_neg (fun x => h (by omega)), Array.getElem?_eq_none (by omega), Array.getElem?_eq_none (by rw [List.size_toArray]; omega)]
theorem build_rowN (n : Nat) (Z F : Nat → Value) : List.foldl (fun (cs : Array Value) (x : Value × Nat) => cs.setIfInBounds x.2 x.1) (Array.map (fun x => (rowL n Z)[x % n]?.getD default) (Array.range n)) (rowL n F).zipIdx = (rowL n F).toArray := by
  have h := build_rowl n Z F
  rw [rowL_len] at h
  exact h
/-- The files so far. -/
structure TimesK (f : Nat → UInt8) (st : Nat → Nat) (lb k : Nat) (w : World) (a : Nat → Option Addr) (c : Nat → Nat) : Prop where
  box : RF w lb 26 3 (fun j => if j < k then .slice (a j) 1 (c j) else .slice none 0 0)
  done : ∀ j, j < k → FilesC (fun q => lb < q ∧ q < w.heap.size) w (.slice (a j) 1 (c j)) (oneL f st j)
set_option maxRecDepth 100000 in
set_option maxHeartbeats 8000000 in
theorem jtimes_law (f : Nat → UInt8) (s0 s1 s2 : Nat) (w : World) (h0 : s0 < 18446744073709551616) (h1 : s1 < 18446744073709551616) (h2 : s2 < 18446744073709551616) (hE : PEnv w) :
    Calls Tryd.prog 7 #[.agg (bv (idL f)).toArray, .agg #[.float .f64 s0, .float .f64 s1, .float .f64 s2]] w fun e w' => e = .returned (.bool true) ∧ Below w.heap.size w w' := by
  obtain ⟨st, hst⟩ : ∃ st : Nat → Nat, st = fun i => if i = 0 then s0 else if i = 1 then s1 else s2 := ⟨_, rfl⟩
  have HST := Lib.hid hst
  clear hst
  have k1 := new_five w (bv (idL f)).toArray 36
  have k2 := new_five (w.alloc (.cells (bv (idL f)).toArray 36)) #[.float .f64 s0, .float .f64 s1, .float .f64 s2] 63
  have e1 : (w.alloc (.cells (bv (idL f)).toArray 36)).heap.size = w.heap.size + 1 := by simp
  rw [e1] at k2
  replace k1 := (Below.heap_alloc (w.alloc (.cells (bv (idL f)).toArray 36)) (.cells #[.float .f64 s0, .float .f64 s1, .float .f64 s2] 63) w.heap.size (by rw [e1]; omega)).trans k1
  have HK1 := Lib.hid k1
  have HK2 := Lib.hid k2
  have HB0 := Lib.hid (((Below.refl w.heap.size w).alloc (Nat.le_refl _) (.cells (bv (idL f)).toArray 36)).alloc (by rw [e1]; omega) (.cells #[.float .f64 s0, .float .f64 s1, .float .f64 s2] 63))
  have HSZ : Hid (((w.alloc (.cells (bv (idL f)).toArray 36)).alloc (.cells #[.float .f64 s0, .float .f64 s1, .float .f64 s2] 63)).heap.size = w.heap.size + 1 + 1) := Lib.hid (by simp)
  have HE := Lib.hid hE
  clear k1 k2 e1 hE
  go_enter Tryd.func7, Tryd.ntmps7
  go_upto_region 1 with fail
  generalize (w.alloc (.cells (bv (idL f)).toArray 36)).alloc (.cells #[.float .f64 s0, .float .f64 s1, .float .f64 s2] 63) = w1 at *
  go_wp2_with fail
  refine (awakeJ_any w1 (HE.out.on HB0.out)).mono ?_
  rintro e w2 ⟨rfl, hb2⟩
  have HB2 := Lib.hid hb2
  clear hb2
  have i3 := RF.new w2 26 3 (fun _ => .slice none 0 0)
  have HT0 : Hid (TimesK f st w2.heap.size 0 (w2.alloc (.cells (rowL 3 (fun _ => .slice none 0 0)).toArray 26)) (fun _ => none) (fun _ => 0)) := Lib.hid ⟨i3, fun j hj => by omega⟩
  have HB3 := Lib.hid (HB2.out.alloc HB2.out.size (.cells (rowL 3 (fun _ => .slice none 0 0)).toArray 26))
  have hs2 := HB2.out.size
  clear i3 HB2
  go_upto_region 4 with fail
  change Code.wp _ _ _ _ (w2.alloc (.cells (rowL 3 (fun _ => .slice none 0 0)).toArray 26))
  generalize w2.alloc (.cells (rowL 3 (fun _ => .slice none 0 0)).toArray 26) = w3 at *
  obtain ⟨lb, hlb⟩ : ∃ n, w2.heap.size = n := ⟨_, rfl⟩
  rw [hlb] at HT0 hs2 ⊢
  clear hlb
  go_wp2_with fail
  go_loopw [15] (fun i wr => ∃ (k : Nat) (a : Nat → Option Addr) (c : Nat → Nat), k ≤ 3 ∧ i = .int .i64 (k : Int) ∧ Hid (TimesK f st lb k wr a c) ∧ Hid (Below w1.heap.size w1 wr)) (fun i _ => 3 - (intOf i).toNat)
  case atStart => exact ⟨0, _, _, by omega, rfl, HT0, HB3⟩
  case round =>
    clear HT0 HB3
    obtain ⟨k, a, c, hk, rfl, hT, hB⟩ := hrel
    by_cases hlt : k < 3
    · have hk1 := (hB.out.block w.heap.size (by rw [HSZ.out]; omega)).trans HK1.out
      have hk2 := (hB.out.block (w.heap.size + 1) (by rw [HSZ.out]; omega)).trans HK2.out
      have hq : ∀ W : World, W.heap[w.heap.size]? = wr.heap[w.heap.size]? → (loadCellsFrom ⟨w.heap.size, 0, none⟩ 0 n32 #[]).run Tryd.prog W = .ok (bv (idL f)).toArray W := fun W hW => by
        have h := load_row W w.heap.size 0 n32 (idF f) (fun j hj => by
          rw [Nat.zero_add, cell_of_row _ _ _ _ _ _ (hW.trans hk1), ← idL_row]
          simpa using rowL_at (idF f) hj)
        rw [idL_row] at h; exact h
      have q1 := hq wr rfl
      have q1d := hq wr.drew rfl
      have hc : wr.cell? ⟨w.heap.size + 1, k, none⟩ = some (.float .f64 (st k)) := by
        rw [cell_of_row _ _ _ _ _ _ hk2, HST.out]
        have h3 : k = 0 ∨ k = 1 ∨ k = 2 := by omega
        rcases h3 with rfl | rfl | rfl <;> rfl
      have hcd : wr.drew.cell? ⟨w.heap.size + 1, k, none⟩ = some (.float .f64 (st k)) := hc
      have b1 : (rowL n34 (fileF noFile) = []) = False := by simp [rowL, n34]
      have b2 : (bv (idL f)).length = n32 := by rw [bv_len, idL_len]; rfl
      have b3 := rowL_len n34 (fileF noFile)
      have b4 : (n34 < 1 + n32) = False := by simp [n34, n32]
      have b6 := fill_size [112] f
      have b7 := fill_end [112] f (st k)
      have b8 := build_rowN n34 (fileF noFile) (fileF ⟨[112], f, st k⟩)
      have b9 : (16777216 < n34) = False := by simp [n34]
      unfold fillF at b6 b7
      have hol := rowL_len n34 (fileF ⟨[112], f, st k⟩)
      generalize bv (idL f) = ix at *
      obtain ⟨sk, hsk⟩ : ∃ s, st k = s := ⟨_, rfl⟩
      have HSK : Hid (sk = st k) := Lib.hid hsk.symm
      rw [hsk] at hc hcd hol b7 b8
      clear hsk
      obtain ⟨R, hRR⟩ : ∃ R, rowL n34 (fileF ⟨[112], f, sk⟩) = R := ⟨_, rfl⟩
      rw [hRR] at hol b7 b8
      obtain ⟨X, b5⟩ : ∃ X, List.foldl (fun (cs : Array Value) (x : Value × Nat) => cs.setIfInBounds (1 + x.snd) x.fst) ((rowL n34 (fileF noFile)).set 0 (.string ⟨[112].toArray⟩)).toArray ix.zipIdx = X := ⟨_, rfl⟩
      rw [b5] at b6 b7
      clear hq hk1 hk2
      have HR : Hid (R = rowL n34 (fileF ⟨[112], f, sk⟩)) := Lib.hid hRR.symm
      clear hRR
      have hbk := (Below.heap_alloc wr (.cells R.toArray 44) lb hT.out.box.lt)
      have hbx := hT.out.box.kept hbk
      have e8 := hbx.cell hlt
      have f8 : (wr.alloc (.cells R.toArray 44)).frozen? ⟨lb, k, none⟩ = false := hbx.free k
      simp only [if_neg (Nat.lt_irrefl k)] at e8
      have hlbr := hT.out.box.lt
      have HT2 : Hid (TimesK f st lb (k + 1) ((wr.alloc (.cells R.toArray 44)).setCell ⟨lb, k, none⟩ (.slice (some ⟨wr.heap.size, 0, none⟩) 1 1)).drew (fun j => if j = k then some ⟨wr.heap.size, 0, none⟩ else a j) (fun j => if j = k then 1 else c j)) := Lib.hid ⟨((hbx.set hlt _).congr (fun j hj => by
          by_cases e : j = k
          · subst e; simp
          · simp only [if_neg e]
            by_cases h : j < k
            · rw [if_pos h, if_pos (by omega)]
            · rw [if_neg h, if_neg (by omega)])).kept rfl, fun j hj => by
          by_cases e : j = k
          · subst e
            simp only [if_pos]
            refine files_lit _ _ wr.heap.size (oneL f st j) R.toArray 44 ?_ ⟨hlbr, by simp⟩ ?_ (by show 1 ≤ 1000; omega)
            · exact (Below.heap_setCell _ ⟨lb, j, none⟩ _ _ (by show wr.heap.size ≠ lb; omega)).trans (new_five _ _ _)
            · rw [HR.out, HSK.out]; simp [oneL]
          · simp only [if_neg e]
            exact (hT.out.done j (by omega)).kept file_keeps (fun q hq => ⟨⟨hq.1, by simp; omega⟩, (Below.heap_setCell _ ⟨lb, k, none⟩ _ _ (by show q ≠ lb; omega)).trans (Below.heap_alloc _ _ _ hq.2)⟩)⟩
      have HB5 : Hid (Below w1.heap.size w1 ((wr.alloc (.cells R.toArray 44)).setCell ⟨lb, k, none⟩ (.slice (some ⟨wr.heap.size, 0, none⟩) 1 1)).drew) := Lib.hid (((hB.out.alloc hB.out.size _).setCell hs2 _).trans (drewn _ _ 1))
      clear hbx hT
      go_upto_region 7 with fail
      go_region
      clear q1 q1d hc hcd b1 b2 b3 b4 b5 b6 b7 b8 b9 hol e8 f8
      have hw : ((wr.alloc (.cells R.toArray 44)).setCell ⟨lb, k, none⟩ (.slice (some ⟨wr.heap.size, 0, none⟩) 1 1)).drew = ((wr.setCell ⟨lb, k, none⟩ (.slice (some ⟨wr.heap.size, 0, none⟩) 1 1)).alloc (.cells R.toArray 44)).drew := by rw [World.setCell_alloc_past _ _ _ _ hlbr]
      rw [hw] at HT2 HB5
      clear hw
      go_wp2_with fail
      exact ⟨⟨k + 1, _, _, by omega, by go_num, HT2, HB5⟩, by simp [intOf]; omega⟩
    · obtain rfl : k = 3 := by omega
      have c0 : wr.cell? ⟨lb, 0, none⟩ = some (.slice (a 0) 1 (c 0)) := hT.out.box.cell (k := 0) (by omega)
      have c1 : wr.cell? ⟨lb, 1, none⟩ = some (.slice (a 1) 1 (c 1)) := hT.out.box.cell (k := 1) (by omega)
      have c2 : wr.cell? ⟨lb, 2, none⟩ = some (.slice (a 2) 1 (c 2)) := hT.out.box.cell (k := 2) (by omega)
      have hst3 : ∀ i, i < 3 → st i < 18446744073709551616 := fun i hi => by
        rw [HST.out]
        have h3 : i = 0 ∨ i = 1 ∨ i = 2 := by omega
        rcases h3 with rfl | rfl | rfl <;> assumption
      have HMG : Hid (Calls Tryd.prog 10 #[.agg #[.slice (a 0) 1 (c 0), .slice (a 1) 1 (c 1), .slice (a 2) 1 (c 2)], .iface 33 (.agg #[.slice none 0 0])] wr (MergQ (mergeT (fun f => textOf f []) (oneL f st)) wr)) := Lib.hid (merg_any (fun q => lb < q ∧ q < wr.heap.size) (.slice none 0 0) [] a c (oneL f st) wr (fun _ h => h.2) ⟨[], rfl, fun _ h => (by cases h), CellsC.nil _ _ _ _ _, fun j e cs h => by cases h⟩ (by show 0 ≤ 4194304; omega) (fun _ h => (by cases h))
        (fun i hi => hT.out.done i hi) (fun i _ g hg => by
          obtain rfl : g = ⟨[112], f, st i⟩ := by simpa [oneL] using hg
          show 1 ≤ 4194304; omega) (fun i hi g hg => by
          obtain rfl : g = ⟨[112], f, st i⟩ := by simpa [oneL] using hg
          exact hst3 i hi) (HE.out.on (HB0.out.trans (hB.out.mono HB0.out.size))))
      obtain ⟨m, hm, hmk, hmi, hms⟩ := one_merge (fun f => textOf f []) f st
      have HTT : Hid (timesB s0 s1 s2 m.1.stamp = true) := Lib.hid (by
        have h := times_true hst3
        rw [← hms] at h
        have e0 : st 0 = s0 := by rw [HST.out]; rfl
        have e1 : st 1 = s1 := by rw [HST.out]; rfl
        have e2 : st 2 = s2 := by rw [HST.out]; rfl
        rw [e0, e1, e2] at h; exact h)
      rw [hm] at HMG
      have HMI := Lib.hid hmi
      have HMK := Lib.hid hmk
      clear hm hmk hmi hms hst3 hT
      go_wp2_with fail
      refine HMG.out.mono ?_
      rintro e w5 ⟨hb5, v5, c5, rfl, hc5, _, hm5⟩
      obtain rfl : c5 = 0 := hc5
      obtain ⟨ms, hms, ho5⟩ := hm5 rfl
      obtain ⟨x, rfl⟩ : ∃ x, ms = [x] := by
        cases ms with
        | nil => cases hms
        | cons x r =>
          injection hms with _ hr
          have h0 : r = [] := List.map_eq_nil_iff.1 hr
          exact ⟨x, by rw [h0]⟩
      have hx : bare x = m := by injection hms
      have hxk : x.1.kind = 1 := by rw [← HMK.out, ← hx]; rfl
      have hxi : x.1.id = f := by rw [← HMI.out, ← hx]; rfl
      have hxs : x.1.stamp = m.1.stamp := by rw [← hx]; rfl
      have HB5 := Lib.hid (hB.out.trans (hb5.mono hB.out.size))
      obtain ⟨oa, oc, rfl⟩ := ho5.shape
      obtain ⟨g1, o1, e1, _⟩ := OutsC.at ho5 (by show 0 < 1; omega)
      subst e1
      obtain ⟨_, l1, l34, _, _⟩ := OutsC.look ho5 (i := 0) (by show 0 < 1; omega)
      have HF : Hid (∀ W : World, W.heap = w5.heap → W.cell? ⟨g1, o1 + 1, none⟩ = some (.int .i64 1) ∧ W.cell? ⟨g1, o1 + 34, none⟩ = some (.float .f64 m.1.stamp) ∧ (loadCellsFrom ⟨g1, o1 + 2, none⟩ 0 n32 #[]).run Tryd.prog W = .ok (bv (idL f)).toArray W ∧ (loadCellsFrom ⟨w.heap.size, 0, none⟩ 0 n32 #[]).run Tryd.prog W = .ok (bv (idL f)).toArray W ∧
          W.cell? ⟨w.heap.size + 1, 0, none⟩ = some (.float .f64 s0) ∧ W.cell? ⟨w.heap.size + 1, 1, none⟩ = some (.float .f64 s1) ∧ W.cell? ⟨w.heap.size + 1, 2, none⟩ = some (.float .f64 s2)) := Lib.hid (fun W hW => by
        have hat := fun j (hj : j < 135) => (OutsC.at ho5 (by show 0 < 1; omega)).choose_spec.choose_spec
        clear hat
        have key : ∀ p : Addr, W.cell? p = w5.cell? p := fun p => World.cell?_of_block (by rw [hW])
        obtain ⟨g2, o2, e2, _, _, _, hat⟩ := OutsC.at ho5 (by show 0 < 1; omega)
        injection e2 with e2
        injection e2 with e2 e3 _
        subst e2 e3
        obtain ⟨_, hc⟩ := hat 0 (by show 0 < 1; omega)
        simp only [List.getD_cons_zero, Nat.zero_mul, Nat.add_zero] at hc
        have hk1 := (hW ▸ (HB5.out.block w.heap.size (by rw [HSZ.out]; omega)).trans HK1.out : W.heap[w.heap.size]? = _)
        have hk2 := (hW ▸ (HB5.out.block (w.heap.size + 1) (by rw [HSZ.out]; omega)).trans HK2.out : W.heap[w.heap.size + 1]? = _)
        refine ⟨?_, ?_, ?_, ?_, ?_, ?_, ?_⟩
        · rw [key, hc 1 (by omega)]; unfold outF; rw [if_neg (by omega), if_pos rfl, hxk]
        · rw [key, hc 34 (by omega)]; unfold outF; rw [if_neg (by omega), if_neg (by omega), if_neg (by omega), if_pos rfl, hxs]
        · have h := load_row W g1 (o1 + 2) n32 (idF f) (fun j hj => by
            have e : n32 = 32 := rfl
            rw [key, Nat.add_assoc, hc (2 + j) (by omega)]; unfold outF idF
            rw [if_neg (by omega), if_neg (by omega), if_pos (by omega), show 2 + j - 2 = j by omega, hxi])
          rw [idL_row] at h; exact h
        · have h := load_row W w.heap.size 0 n32 (idF f) (fun j hj => by
            rw [Nat.zero_add, cell_of_row _ _ _ _ _ _ hk1, ← idL_row]
            simpa using rowL_at (idF f) hj)
          rw [idL_row] at h; exact h
        · rw [cell_of_row _ _ _ _ _ _ hk2]; rfl
        · rw [cell_of_row _ _ _ _ _ _ hk2]; rfl
        · rw [cell_of_row _ _ _ _ _ _ hk2]; rfl)
      have hng := fun W => id_neq W (idL_len f) (idL_len f)
      rw [decide_eq_false (fun h => h rfl)] at hng
      have hol : (bv (idL f)).length = n32 := by rw [bv_len, idL_len]; rfl
      have HS0 := Lib.hid (fun W => (rbits_any s0 W).mono (R' := fun e w' => e = .returned (.int .u64 (canonB s0)) ∧ w' = W) (fun e w' h => ⟨h.1, h.2.symm⟩))
      have HS1 := Lib.hid (fun W => (rbits_any s1 W).mono (R' := fun e w' => e = .returned (.int .u64 (canonB s1)) ∧ w' = W) (fun e w' h => ⟨h.1, h.2.symm⟩))
      have HS2 := Lib.hid (fun W => (rbits_any s2 W).mono (R' := fun e w' => e = .returned (.int .u64 (canonB s2)) ∧ w' = W) (fun e w' h => ⟨h.1, h.2.symm⟩))
      have HSG := Lib.hid (fun W => (rbits_any m.1.stamp W).mono (R' := fun e w' => e = .returned (.int .u64 (canonB m.1.stamp)) ∧ w' = W) (fun e w' h => ⟨h.1, h.2.symm⟩))
      have HP1 := Lib.hid (fun W => (before_any m.1.stamp s1 W).mono (R' := fun e w' => e = .returned (.bool (beforeX (canonB m.1.stamp) (canonB s1))) ∧ w' = W) (fun e w' h => ⟨h.1, h.2.symm⟩))
      have HP2 := Lib.hid (fun W => (before_any m.1.stamp s2 W).mono (R' := fun e w' => e = .returned (.bool (beforeX (canonB m.1.stamp) (canonB s2))) ∧ w' = W) (fun e w' h => ⟨h.1, h.2.symm⟩))
      unfold timesB at HTT
      clear hms hx hxk hxi hxs l1 l34 ho5 hb5 HMG hm5
      generalize m.1.stamp = sg at *
      generalize canonB s0 = x0 at *
      generalize canonB s1 = x1 at *
      generalize canonB s2 = x2 at *
      generalize canonB sg = xg at *
      generalize beforeX xg x1 = p1 at *
      generalize beforeX xg x2 = p2 at *
      generalize bv (idL f) = ix at *
      have zF := fun n => HF.out (w5.drewN n) rfl
      have z1 := fun n => (zF n).1
      have z2 := fun n => (zF n).2.2.1
      have z3 := fun n => (zF n).2.2.2.1
      clear zF c0 c1 c2
      go_upto_region 10 with fail
      go_quiet (fail)
      clear z1 z2 z3
      have HB6 : Hid (Below w1.heap.size w1 (w5.drewN nq)) := Lib.hid (HB5.out.trans ((drewn _ _ _).mono HB5.out.size))
      have HH6 : Hid ((w5.drewN nq).heap = w5.heap) := Lib.hid rfl
      generalize w5.drewN nq = w6 at *
      have zF := fun n => HF.out (w6.drewN n) HH6.out
      have z2 := fun n => (zF n).2.1
      have z5 := fun n => (zF n).2.2.2.2.1
      have z6 := fun n => (zF n).2.2.2.2.2.1
      have z7 := fun n => (zF n).2.2.2.2.2.2
      clear zF
      go_upto_region 12 with fail
      go_quiet ((go_at_call 12; first | (with_reducible exact Calls.quiet_of_same (HS0.out _)) | (with_reducible exact Calls.quiet_of_same (HS1.out _)) | (with_reducible exact Calls.quiet_of_same (HS2.out _)) | (with_reducible exact Calls.quiet_of_same (HSG.out _))))
      clear z2 z5 z6 z7
      have HB7 : Hid (Below w1.heap.size w1 (w6.drewN nq)) := Lib.hid (HB6.out.trans ((drewn _ _ _).mono HB6.out.size))
      have HH7 : Hid ((w6.drewN nq).heap = w5.heap) := Lib.hid HH6.out
      generalize w6.drewN nq = w7 at *
      have HZZ : Hid (Below w.heap.size w w7) := Lib.hid (HB0.out.trans (HB7.out.mono HB0.out.size))
      clear HB6 HH6 HB7
      by_cases a1 : x1 = x0
      · have hxg : xg = x2 := by
          rw [if_pos a1] at HTT
          exact of_decide_eq_true HTT.out
        subst a1 hxg
        clear HTT
        go_wp2_with fail
        go_ret
        exact ⟨by simp, HZZ.out⟩
      · have b1 : (x1 == x0) = false := beq_eq_false_iff_ne.2 a1
        by_cases a2 : x2 = x0
        · have hxg : xg = x1 := by
            rw [if_neg a1, if_pos a2] at HTT
            exact of_decide_eq_true HTT.out
          subst a2 hxg
          clear HTT
          go_wp2_with fail
          go_ret
          exact ⟨by simp, HZZ.out⟩
        · have b2 : (x2 == x0) = false := beq_eq_false_iff_ne.2 a2
          rw [if_neg a1, if_neg a2] at HTT
          have htt := HTT.out
          rw [Bool.and_eq_true, Bool.and_eq_true] at htt
          obtain ⟨⟨t1, t2⟩, t3⟩ := htt
          have t2' : p1 = false := by simpa using t2
          have t3' : p2 = false := by simpa using t3
          subst t2' t3'
          have HT1 : Hid (xg = x1 ∨ xg = x2) := Lib.hid (by
            rcases Bool.or_eq_true _ _ ▸ t1 with h | h
            · exact Or.inl (of_decide_eq_true h)
            · exact Or.inr (of_decide_eq_true h))
          clear t1 t2 t3 HTT
          have zF := fun n => HF.out (w7.drewN n) HH7.out
          have z2 := fun n => (zF n).2.1
          have z6 := fun n => (zF n).2.2.2.2.2.1
          have z7 := fun n => (zF n).2.2.2.2.2.2
          clear zF
          by_cases a3 : xg = x1
          · subst a3
            go_upto_region 17 with fail
            go_quiet ((go_at_call 20; first | (with_reducible exact Calls.quiet_of_same (HP1.out _)) | (with_reducible exact Calls.quiet_of_same (HP2.out _))))
            have HZ8 : Hid (Below w.heap.size w (w7.drewN nq)) := Lib.hid (HZZ.out.trans ((drewn _ _ _).mono HZZ.out.size))
            generalize w7.drewN nq = w8 at *
            go_wp2_with fail
            go_ret
            exact ⟨by simp, HZ8.out⟩
          · have hxg : xg = x2 := by
              rcases HT1.out with h | h
              · exact absurd h a3
              · exact h
            subst hxg
            have b3 : (xg == x1) = false := beq_eq_false_iff_ne.2 a3
            have b4 : decide (xg = x1) = false := decide_eq_false a3
            have b5 : ((xg : Int) == (x1 : Int)) = false := by rw [beq_eq_false_iff_ne]; omega
            go_upto_region 17 with fail
            go_quiet ((go_at_call 20; first | (with_reducible exact Calls.quiet_of_same (HP1.out _)) | (with_reducible exact Calls.quiet_of_same (HP2.out _))))
            have HZ8 : Hid (Below w.heap.size w (w7.drewN nq)) := Lib.hid (HZZ.out.trans ((drewn _ _ _).mono HZZ.out.size))
            generalize w7.drewN nq = w8 at *
            go_wp2_with fail
            go_ret
            exact ⟨by simp, HZ8.out⟩
end Go.Proofs.YtjlpdoppnhcjoaaDoor
