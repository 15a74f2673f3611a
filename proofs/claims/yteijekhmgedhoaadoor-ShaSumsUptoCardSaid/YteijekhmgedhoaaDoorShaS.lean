/- The walk of Hex. -/
import Derived.Test.YteijekhmgedhoaaDoorShaM
import Derived.Test.YteijekhmgedhoaaDoorShaR
import Derived.Laws.BitsAllLaws
import Derived.Deep.Cut
namespace Go.Proofs.YteijekhmgedhoaaDoor
open Go.RowKit
attribute [local simp high] b64_size b64_zero id_size id_zero

theorem index16k (w : World) (kd : IntKind) (q : Nat) (hq : q < 16) : (Instr.index 9 (.string ⟨#[48, 49, 50, 51, 52, 53, 54, 55, 56, 57, 97, 98, 99, 100, 101, 102]⟩) (.int kd (q : Int))).run Tryd.prog w = .ok (.int .u8 ((digit q).toNat : Nat)) w := by
  have h0 : (⟨#[48, 49, 50, 51, 52, 53, 54, 55, 56, 57, 97, 98, 99, 100, 101, 102]⟩ : ByteArray).size = 16 := rfl
  rw [run_index_string _ _ _ _ _ (by kernel_rfl), dif_pos (by rw [h0]; omega)]
  have key : ∀ q (h : q < 16), ((⟨#[48, 49, 50, 51, 52, 53, 54, 55, 56, 57, 97, 98, 99, 100, 101, 102]⟩ : ByteArray)[q]'h).toNat = (digit q).toNat := by decide
  have e : (q : Int).toNat = q := by omega
  simp only [e, key q hq]
theorem id_index (w : World) {l : List UInt8} (hl : l.length = 32) (k : Nat) (hk : k < 32) : (Instr.index 25 (.agg (bv l).toArray) (.int .i64 (k : Int))).run Tryd.prog w = .ok (.int .u8 ((l.getD k 0).toNat : Nat)) w := by
  have ha : (isAgg 5).run Tryd.prog w = .ok false w := by rw [Tryd.isAgg5]
  have hs : (sizeOf 5).run Tryd.prog w = .ok 1 w := by rw [Tryd.sizeOf5]
  have hp := part_byte (P := Tryd.prog) w ha l k (by omega)
  have e : (k : Int).toNat = k := by omega
  have e2 : l.getD k 0 = l[k] := by simp [List.getD, List.getElem?_eq_getElem (show k < l.length by omega)]
  simp only [Instr.index, asIntOf, Sem.run_bind, Sem.run_pure, Result.andThen_ok, run_underlying Tryd.under25', e]
  rw [if_pos (by omega), Sem.run_bind, hs, Result.andThen_ok, Nat.mul_one, hp, e2]
/-- The digits behind k bytes, noughts behind. -/
def hexUp (l : List UInt8) (k : Nat) : List UInt8 := hexL (l.take k) ++ List.replicate (64 - 2 * k) 0
theorem hexUp_len {l : List UInt8} {k : Nat} (hl : l.length = 32) (hk : k ≤ 32) : (hexUp l k).length = 64 := by
  unfold hexUp; rw [List.length_append, hexL_len, List.length_take, List.length_replicate]; omega
theorem hexUp_succ {l : List UInt8} {k : Nat} (hl : l.length = 32) (hk : k < 32) : ((hexUp l k).set (2 * k) (digit ((l.getD k 0).toNat / 16))).set (2 * k + 1) (digit ((l.getD k 0).toNat % 16)) = hexUp l (k + 1) := by
  have e2 : l.getD k 0 = l[k] := by simp [List.getD, List.getElem?_eq_getElem (show k < l.length by omega)]
  have hn : (hexL (l.take k)).length = 2 * k := by rw [hexL_len, List.length_take]; omega
  unfold hexUp
  rw [e2, hexL_snoc l k (by omega), show 64 - 2 * k = (64 - 2 * (k + 1)) + 1 + 1 by omega, List.replicate_succ, List.replicate_succ]
  rw [List.set_append_right _ _ (by omega), hn, Nat.sub_self, List.set_cons_zero, List.set_append_right _ _ (by omega), hn, show 2 * k + 1 - 2 * k = 1 by omega]
  simp
theorem hexUp_zero (l : List UInt8) : hexUp l 0 = zerosB := by unfold hexUp; rfl
theorem hexUp_all {l : List UInt8} (hl : l.length = 32) : hexUp l 32 = hexL l := by
  unfold hexUp; rw [List.take_of_length_le (by omega)]; simp
theorem row_bytes {w : World} {b : Nat} {l : List UInt8} (h : RowAt w b 67 (bv l)) (hl : l.length = 64) : BytesC (fun k => k = b) w (.slice (some ⟨b, 0, none⟩) 64 64) l := by
  refine Or.inr ⟨⟨b, 0, none⟩, 64, by rw [hl], by omega, by unfold maxLen; omega, Or.inr rfl, fun j u hj => ?_⟩
  rw [Addr.add_mid, h.cell]
  simpa using hj
set_option maxRecDepth 100000 in
set_option maxHeartbeats 2000000 in
theorem hex_any (l : List UInt8) (w : World) (hl : l.length = 32) : Calls Tryd.prog 32 #[.agg (bv l).toArray] w fun e w' => e = .returned (.string ⟨(hexL l).toArray⟩) ∧ Below w.heap.size w w' := by
  have HL := Lib.hid hl
  have i1 : IDAt (w.alloc (.cells (bv l).toArray 25)) w.heap.size l := ⟨hl, new_five w _ _⟩
  have hr := RowAt.new (w.alloc (.cells (bv l).toArray 25)) 67 (bv zerosB)
  have hb := ((Below.refl w.heap.size w).alloc (Nat.le_refl _) (.cells (bv l).toArray 25)).alloc (by simp) (.cells (bv zerosB).toArray 67)
  have i2 := i1.kept (w' := (w.alloc (.cells (bv l).toArray 25)).alloc (.cells (bv zerosB).toArray 67)) (Below.heap_alloc _ _ _ (by simp))
  rw [show (w.alloc (.cells (bv l).toArray 25)).heap.size = w.heap.size + 1 by simp] at hr
  have c1 := i2.cells
  have HR := Lib.hid hr
  have HB := Lib.hid hb
  have hnl : (bv l).length = n32 := by rw [bv_len, hl]; rfl
  clear i1 i2 hr hb hl
  go_enter Tryd.func32, Tryd.ntmps32
  go_wp2_with fail
  clear c1 hnl
  generalize (w.alloc (.cells (bv l).toArray 25)).alloc (.cells (bv zerosB).toArray 67) = w2 at *
  go_loopw [7] (fun i wr => ∃ k : Nat, k ≤ 32 ∧ i = .int .i64 k ∧ RowAt wr (w.heap.size + 1) 67 (bv (hexUp l k)) ∧ Below w.heap.size w wr) (fun i _ => 32 - (intOf i).toNat)
  case atStart => exact ⟨0, by omega, rfl, by rw [hexUp_zero]; exact HR.out, HB.out⟩
  case round =>
    obtain ⟨k, hk, rfl, hr, hbw⟩ := hrel
    have R := Lib.hid hr
    have B := Lib.hid hbw
    clear hr hbw HR HB
    by_cases hlt : k < 32
    · have hix := fun w => id_index w HL.out k hlt
      have HU := Lib.hid (hexUp_succ HL.out hlt)
      have HX := Lib.hid (hexUp_len (k := k) HL.out hk)
      have hx8 : (l.getD k 0).toNat < 256 := UInt8.toNat_lt _
      generalize (l.getD k 0).toNat = x at *
      have ea : (x : Int) / 16 = ((x / 16 : Nat) : Int) := by omega
      have eb : bits .and .u8 (x : Int) 15 = ((x % 16 : Nat) : Int) := by
        have := u8_and_nat x 15 hx8 (by omega)
        rw [show ((15 : Nat) : Int) = 15 from rfl] at this
        rw [this, show (15 : Nat) = 2 ^ 4 - 1 from rfl, Nat.and_two_pow_sub_one_eq_mod]
      have ha : x / 16 < 16 := by omega
      have hb : x % 16 < 16 := by omega
      generalize x / 16 = a at *
      generalize x % 16 = b at *
      have sa := fun w => index16k w .u8 a ha
      have sb := fun w => index16k w .u8 b hb
      obtain ⟨m, hm⟩ : ∃ m, m = 2 * k := ⟨_, rfl⟩
      have em : (2 : Int) * (k : Int) = (m : Int) := by omega
      have hm62 : m ≤ 62 := by omega
      rw [← hm] at HU
      generalize hexUp l k = u at *
      have hc := (R.out.cell m).trans (bv_getD (by rw [HX.out]; omega))
      have hf := R.out.free m
      have hs1 := R.out.set m (.int .u8 ((digit a).toNat : Nat))
      rw [bv_set _ _ _ (UInt8.toNat_lt _), UInt8.ofNat_toNat] at hs1
      have R2 := Lib.hid hs1
      have B2 := Lib.hid (B.out.setCell (p := ⟨w.heap.size + 1, m, none⟩) (by simp) (.int .u8 ((digit a).toNat : Nat)))
      have EA := Lib.hid ea
      have EB := Lib.hid eb
      clear hs1 hm ha hb
      go_upto_region 6 with fail
      clear hc hf hix
      generalize wr.setCell ⟨w.heap.size + 1, m, none⟩ (.int .u8 ((digit a).toNat : Nat)) = w3 at *
      have hc := (R2.out.cell (m + 1)).trans (bv_getD (by rw [List.length_set, HX.out]; omega))
      have hf := R2.out.free (m + 1)
      have hs1 := R2.out.set (m + 1) (.int .u8 ((digit b).toNat : Nat))
      rw [bv_set _ _ _ (UInt8.toNat_lt _), UInt8.ofNat_toNat, HU.out] at hs1
      have R3 := Lib.hid hs1
      have B3 := Lib.hid (B2.out.setCell (p := ⟨w.heap.size + 1, m + 1, none⟩) (by simp) (.int .u8 ((digit b).toNat : Nat)))
      have eb := EB.out
      clear hs1
      go_wp2_with fail
      go_roundw
      case rel => exact ⟨k + 1, by omega, by go_num, R3.out, B3.out⟩
      case measure => simp [intOf]; omega
    · have hk32 : k = 32 := by omega
      rw [hk32, hexUp_all HL.out] at R
      have hd : decide ((k : Int) < 32) = false := by rw [hk32]; rfl
      have hll : (hexL l).length = 64 := by rw [hexL_len, HL.out]
      have hcv := bytes_str (row_bytes R.out hll)
      have hsl := fun W => slice64_all W (w.heap.size + 1)
      clear hk32 hlt hll
      go_wp2_with fail
      go_ret
      exact ⟨rfl, B.out⟩
end Go.Proofs.YteijekhmgedhoaaDoor
