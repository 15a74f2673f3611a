/- Cells cleared; the walks of id and closed. -/
import Derived.Test.YteijekhmgedhoaaDoorShaK
import Derived.Lib.SliceRun
import Derived.BigFrame
namespace Go.Proofs.YteijekhmgedhoaaDoor
open Go.RowKit
attribute [local simp high] st_zero b64_size b64_zero id_size id_zero

theorem RowAt.sets {b : Nat} {t : TypeId} : ∀ (news : List Value) (o : Nat) (vs : List Value) (w : World), RowAt w b t vs → o + news.length ≤ vs.length → RowAt (w.setCells b o news) b t (vs.take o ++ news ++ vs.drop (o + news.length))
  | [], o, vs, w, h, _ => by simpa [World.setCells] using h
  | v :: r, o, vs, w, h, hl => by
    simp only [List.length_cons] at hl
    have := RowAt.sets r (o + 1) (vs.set o v) (w.setCell ⟨b, o, none⟩ v) (h.set o v) (by rw [List.length_set]; omega)
    have e : (vs.set o v).take (o + 1) ++ r ++ (vs.set o v).drop (o + 1 + r.length) = vs.take o ++ (v :: r) ++ vs.drop (o + (r.length + 1)) := by
      rw [List.take_succ_eq_append_getElem (by rw [List.length_set]; omega), List.getElem_set_self, List.take_set_of_le (Nat.le_refl _), List.drop_set_of_lt (by omega)]
      simp [Nat.add_assoc, Nat.add_comm 1]
    rw [e] at this
    exact this
theorem below_sets {B b : Nat} {w0 : World} (hB : B ≤ b) : ∀ (news : List Value) (o : Nat) (w : World), Below B w0 w → Below B w0 (w.setCells b o news)
  | [], _, _, h => h
  | v :: r, o, w, h => below_sets hB r (o + 1) _ (h.setCell (by simpa using hB) v)
theorem outB_at (v : Eight) (i : Nat) : outB v.list i = UInt8.ofNat (v.list.getD (i / 4) 0 / 2 ^ (24 - 8 * (i % 4)) % 256) := rfl
/-- The first k bytes of the sum, noughts behind. -/
def outUp (h : List Nat) (k : Nat) : List UInt8 := (List.range 32).map fun i => if i < k then outB h i else 0
theorem outUp_zero (h : List Nat) : outUp h 0 = zeros := rfl
theorem outUp_len (h : List Nat) (k : Nat) : (outUp h k).length = 32 := by unfold outUp; simp
theorem outUp_succ (h : List Nat) (k : Nat) (hk : k < 32) : outUp h (k + 1) = (outUp h k).set k (outB h k) := by
  apply List.ext_getElem?
  intro i
  rw [List.getElem?_set, outUp_len]
  unfold outUp
  by_cases hi : k = i
  · subst hi
    simp [hk]
  · rw [if_neg hi]
    by_cases h2 : i < 32
    · simp only [List.getElem?_map, List.getElem?_range h2, Option.map_some]
      congr 1
      by_cases h3 : i < k
      · rw [if_pos h3, if_pos (by omega)]
      · rw [if_neg h3, if_neg (by omega)]
    · simp [h2]
theorem outUp_all (h : List Nat) : outUp h 32 = (List.range 32).map (outB h) := by
  unfold outUp
  apply List.map_congr_left
  intro i hi
  rw [if_pos (List.mem_range.1 hi)]
set_option maxRecDepth 100000 in
set_option maxHeartbeats 4000000 in
theorem id_any (v : Eight) (w : World) (hv : ∀ x ∈ v.list, x < two32) : Calls Tryd.prog 40 #[.agg (wv v.list).toArray] w fun e w' => e = .returned (.agg (bv ((List.range 32).map (outB v.list))).toArray) ∧ Below w.heap.size w w' := by
  have hr1 := RowAt.new w 66 (wv v.list)
  have hi2 := IDAt.new (w.alloc (.cells (wv v.list).toArray 66))
  have hi3 := IDAt.new ((w.alloc (.cells (wv v.list).toArray 66)).alloc (.cells (bv zeros).toArray 25))
  have hbw := (((Below.refl w.heap.size w).alloc (Nat.le_refl _) (.cells (wv v.list).toArray 66)).alloc (by simp) (.cells (bv zeros).toArray 25)).alloc (by simp; omega) (.cells (bv zeros).toArray 25)
  replace hr1 := (hr1.kept (Below.heap_alloc _ (.cells (bv zeros).toArray 25) _ hr1.lt))
  replace hr1 := (hr1.kept (Below.heap_alloc _ (.cells (bv zeros).toArray 25) _ hr1.lt))
  replace hi2 := (hi2.kept (Below.heap_alloc _ (.cells (bv zeros).toArray 25) _ (by simp)))
  simp only [World.size_alloc] at hi2 hi3
  have HR1 := Lib.hid hr1
  have HI2 := Lib.hid hi2
  have HI3 := Lib.hid hi3
  have HBW := Lib.hid hbw
  have HV := Lib.hid hv
  clear hr1 hi2 hi3 hbw hv
  go_enter Tryd.func40, Tryd.ntmps40
  go_wp2_with fail
  generalize ((w.alloc (.cells (wv v.list).toArray 66)).alloc (.cells (bv zeros).toArray 25)).alloc (.cells (bv zeros).toArray 25) = w3 at *
  go_loopw [5] (fun i wr => ∃ k : Nat, k ≤ 32 ∧ i = .int .i64 k ∧ RowAt wr w.heap.size 66 (wv v.list) ∧ IDAt wr (w.heap.size + 1) zeros ∧ IDAt wr (w.heap.size + 1 + 1) (outUp v.list k) ∧ Below w.heap.size w wr) (fun i _ => 32 - (intOf i).toNat)
  case atStart => exact ⟨0, by omega, rfl, HR1.out, HI2.out, by rw [outUp_zero]; exact HI3.out, HBW.out⟩
  case round =>
    obtain ⟨k, hk, rfl, hr1, hi2, hi3, hbw⟩ := hrel
    have J1 := Lib.hid hr1
    have J2 := Lib.hid hi2
    have J3 := Lib.hid hi3
    have JB := Lib.hid hbw
    by_cases hlt : k < 32
    · have c1 := (hr1.cell (k / 4)).trans (wv_at (by show k / 4 < 8; omega))
      have hst := hi3.set k (v.list.getD (k / 4) 0 / 2 ^ (24 - 8 * (k % 4)) % 256) (Nat.mod_lt _ (by omega))
      rw [← outB_at, ← outUp_succ _ _ hlt] at hst
      have HST := Lib.hid hst
      have c3 := hi3.cell k (by rw [outUp_len]; exact hlt)
      have f3 := hi3.free k
      have C3 : Hid (∃ u, wr.cell? ⟨w.heap.size + 1 + 1, k, none⟩ = some u) := Lib.hid ⟨_, c3⟩
      obtain ⟨sh, hsh⟩ : ∃ sh, sh = 24 - 8 * (k % 4) := ⟨_, rfl⟩
      have hx1 : (24 : Int) - 8 * ((k : Int) % 4) = (sh : Int) := by omega
      have hs24 : sh ≤ 24 := by omega
      rw [← hsh] at HST
      generalize v.list.getD (k / 4) 0 = x at *
      have hx2 : ((x : Int) / 2 ^ sh) = ((x / 2 ^ sh : Nat) : Int) := by simp
      generalize x / 2 ^ sh = y at *
      have hx3 : IntKind.u8.wrap (y : Int) = ((y % 256 : Nat) : Int) := by rw [IntKind.wrap_u8]; omega
      clear hr1 hi2 hi3 hbw hst c3 hsh
      obtain ⟨u, c3⟩ := C3.out
      go_wp2_with fail
      go_roundw
      case rel => exact ⟨k + 1, by omega, by go_num, J1.out.kept (heap_setCell_other _ _ _ _ (by simp; omega)), J2.out.kept (heap_setCell_other _ _ _ _ (by simp)), HST.out, JB.out.setCell (by simp; omega) _⟩
      case measure => simp [intOf]; omega
    · have hk32 : k = 32 := by omega
      have hd : decide ((k : Int) < 32) = false := by rw [hk32]; rfl
      have hoa : outUp v.list k = (List.range 32).map (outB v.list) := by rw [hk32]; exact outUp_all _
      rw [hoa] at hi3
      obtain ⟨o, ho⟩ : ∃ o, o = (List.range 32).map (outB v.list) := ⟨_, rfl⟩
      rw [← ho] at hi3
      have HO := Lib.hid ho
      clear ho
      have c3 := hi3.cells
      have c2 := hi2.write (l := o) hi3.len
      have zl : (bv o).length = n32 := by rw [bv_len, hi3.len]; rfl
      have HP := Lib.hid (hi2.put (l := o) hi3.len)
      have HBF := Lib.hid (below_setRow hbw (show w.heap.size ≤ w.heap.size + 1 by omega) (bv o).toArray)
      clear hk32 hoa hr1 hi2 hi3 hbw hlt
      go_wp2_with fail
      exact bodyPost_ret (v := .agg (bv o).toArray) (results_row rfl _ _ rfl Tryd.under25' (by rw [zl]; exact Tryd.size25) ⟨HP.out.blk⟩) rfl ⟨by rw [HO.out], HBF.out⟩
theorem z8 (w : World) : (zeroValue 5).run Tryd.prog w = .ok (.int .u8 0) w := by kernel_rfl
/-- clear of the last bytes of a block. -/
theorem clear_run {w : World} {b n : Nat} {l : List UInt8} (h : RowAt w b 67 (bv l)) (hl : l.length = 64) (hn : n < 64) (c : Nat) (ty : TypeId) :
    (Builtin.clear_ #[22] ty #[.slice (some ⟨b, n, none⟩) (64 - n) c]).run Tryd.prog w = .ok (.tuple #[]) (w.setCells b n (List.replicate (64 - n) (.int .u8 0))) :=
  Lib.run_clear_slice w 22 5 ty (.int .u8 0) Tryd.underlying22 z8 rfl rfl b n (64 - n) c (by omega) (fun j hj => by rw [h.cell, bv_getD (by omega)]; rfl) (fun j hj => h.free _)
theorem clear_row {w : World} {b n : Nat} {l : List UInt8} (h : RowAt w b 67 (bv l)) (hl : l.length = 64) (hn : n < 64) : RowAt (w.setCells b n (List.replicate (64 - n) (.int .u8 0))) b 67 (bv (l.take n ++ List.replicate (64 - n) 0)) := by
  have := RowAt.sets (List.replicate (64 - n) (Value.int .u8 0)) n (bv l) w h (by rw [bv_len, List.length_replicate, hl]; omega)
  have e : (bv l).take n ++ List.replicate (64 - n) (Value.int .u8 0) ++ (bv l).drop (n + (List.replicate (64 - n) (Value.int .u8 0)).length) = bv (l.take n ++ List.replicate (64 - n) 0) := by
    rw [List.drop_eq_nil_of_le (by rw [bv_len, List.length_replicate]; omega), List.append_nil, bv_append, bv_take]
    congr 1
    unfold bv; rw [List.map_replicate]; rfl
  rw [e] at this
  exact this
end Go.Proofs.YteijekhmgedhoaaDoor
