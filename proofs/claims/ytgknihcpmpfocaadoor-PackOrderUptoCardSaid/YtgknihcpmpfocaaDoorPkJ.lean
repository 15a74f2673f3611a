/- The walk of the reference's Frame. -/
import Derived.Test.YtgknihcpmpfocaaDoorPkAD
namespace Go.Proofs.YtgknihcpmpfocaaDoor
open Go.RowKit
attribute [local simp high] id_size id_zero
structure Hf (n k : Nat) (c : List UInt8) : Prop where
  len : c.length = 4
  put : ∀ j, j < k → c[3 - j]? = some (UInt8.ofNat (n / 256 ^ j % 256))
theorem Hf.set {n k : Nat} {c : List UInt8} (h : Hf n k c) (hk : k < 4) : Hf n (k + 1) (c.set (3 - k) (UInt8.ofNat (n / 256 ^ k % 256))) := by
  refine ⟨by rw [List.length_set]; exact h.len, fun j hj => ?_⟩
  have hl := h.len
  rw [List.getElem?_set]
  by_cases e : j = k
  · subst e; rw [if_pos rfl, if_pos (by omega)]
  · rw [if_neg (by omega)]; exact h.put j (by omega)
theorem Hf.done {n : Nat} {c : List UInt8} (h : Hf n 4 c) : c = be4 n := by
  have h0 := h.put 0 (by omega)
  have h1 := h.put 1 (by omega)
  have h2 := h.put 2 (by omega)
  have h3 := h.put 3 (by omega)
  have hl := h.len
  match c, hl with
  | [a, b, d, e], _ =>
    simp at h0 h1 h2 h3
    unfold be4
    rw [h0, h1, h2, h3]
    first | done | rfl
theorem make4 (W : World) : (Instr.makeSlice 22 (.int .i64 4) (.int .i64 4)).run Tryd.prog W = .ok (.slice (some ⟨W.heap.size, 0, none⟩) 4 4) (W.alloc (.cells (bv [0, 0, 0, 0]).toArray 5)) := by kernel_rfl
theorem str_cat (x y : List UInt8) : ((⟨x.toArray⟩ : ByteArray) ++ ⟨y.toArray⟩) = ⟨(x ++ y).toArray⟩ := by
  apply ByteArray.ext
  simp
theorem str_add (x y : List UInt8) (h : x.length + y.length ≤ 1073741824) (W : World) : (binOp .add 9 (.string ⟨x.toArray⟩) (.string ⟨y.toArray⟩)).run Tryd.prog W = .ok (.string ⟨(x ++ y).toArray⟩) W := by
  have e : ((⟨x.toArray⟩ : ByteArray) ++ ⟨y.toArray⟩) = ⟨(x ++ y).toArray⟩ := by
    apply ByteArray.ext
    simp
  simp [binOp, go_sem, ← e]
  omega
set_option maxRecDepth 100000 in
set_option maxHeartbeats 4000000 in
theorem rframe_any (s : List UInt8) (w : World) (hs : s.length ≤ 1000000) (hsum : ∀ W, Calls Tryd.prog 48 #[.string ⟨s.toArray⟩] W fun e W' => e = .returned (.agg (bv (sumN s)).toArray) ∧ Below W.heap.size W W') :
    Calls Tryd.prog 29 #[.string ⟨s.toArray⟩] w fun e w' => e = .returned (.string ⟨(frameL s).toArray⟩) ∧ Below w.heap.size w w' := by
  have HSUM := Lib.hid hsum
  have HL := Lib.hid hs
  have hmk := make4
  obtain ⟨n, hn⟩ : ∃ n, n = s.length := ⟨_, rfl⟩
  have hsz0 : (⟨s.toArray⟩ : ByteArray).size = n := by rw [hn]; rfl
  have hr3 := RowAt.new w 5 (bv [0, 0, 0, 0])
  have HB1 := Lib.hid ((Below.refl w.heap.size w).alloc (Nat.le_refl _) (.cells (bv [0, 0, 0, 0]).toArray 5))
  have HR := Lib.hid hr3
  have HN := Lib.hid hn
  clear hsum hs hr3 hn
  go_enter Tryd.func29, Tryd.ntmps29
  go_upto_region 3 with fail
  have hsz1 : (w.alloc (.cells (bv [0, 0, 0, 0]).toArray 5)).heap.size = w.heap.size + 1 := by simp
  generalize w.alloc (.cells (bv [0, 0, 0, 0]).toArray 5) = w1 at *
  obtain ⟨bo, hbo⟩ : ∃ bo, bo = w.heap.size := ⟨_, rfl⟩
  rw [show (Value.slice (some { block := w.heap.size, off := 0 }) 4 4 : Value) = .slice (some ⟨bo, 0, none⟩) 4 4 by rw [hbo]]
  rw [← hbo] at HR
  have HBO : Hid (w.heap.size ≤ bo ∧ bo < w1.heap.size) := Lib.hid ⟨by omega, by omega⟩
  clear hbo hmk
  go_wp2_with fail
  go_loopw [3, 5] (fun x i wr => ∃ (k q : Nat) (c : List UInt8), k ≤ 4 ∧ i = .int .i64 ((3 : Int) - (k : Int)) ∧ q = n / 256 ^ k ∧ x = .int .i64 (q : Int) ∧ RowAt wr bo 5 (bv c) ∧ Hf n k c ∧ Below w.heap.size w wr ∧ w1.heap.size ≤ wr.heap.size) (fun _ i _ => (intOf i + 1).toNat)
  case atStart => exact ⟨0, n, [0, 0, 0, 0], by omega, rfl, by simp, rfl, HR.out, ⟨rfl, fun j hj => by omega⟩, HB1.out, Nat.le_refl _⟩
  case round =>
    obtain ⟨k, q, c, hk, rfl, hq, rfl, hrr, hhd, hrb, hrz⟩ := hrel
    have HHD := Lib.hid hhd
    have HRB := Lib.hid hrb
    have HQ := Lib.hid hq
    have hcl : (bv c).length = 4 := by rw [bv_len, hhd.len]
    clear hrb hhd hq
    by_cases hlt : k < 4
    · obtain ⟨m, hm⟩ : ∃ m, m = 3 - k := ⟨_, rfl⟩
      have hme : (3 : Int) - (k : Int) = (m : Int) := by omega
      have HME := Lib.hid hme
      have HM := Lib.hid hm
      rw [hme]
      have hd : decide ((m : Int) ≥ 0) = true := decide_eq_true (by omega)
      have hin : m < 4 := by omega
      have hc := hrr.cell m
      have hf := hrr.free m
      obtain ⟨u, hu⟩ : ∃ u, (bv c)[m]? = some u := ⟨_, List.getElem?_eq_getElem (by omega)⟩
      rw [hu] at hc
      clear hu hm hme
      go_upto_region 7 with fail
      obtain ⟨c', hc', hb'⟩ : ∃ c', c' = c.set m (UInt8.ofNat (q % 256)) ∧ RowAt (wr.setCell ⟨bo, m, none⟩ (.int .u8 ((q % 256 : Nat) : Int))) bo 5 (bv c') := ⟨_, rfl, by rw [← bv_set c m (q % 256) (by omega)]; exact hrr.set m _⟩
      have R4 : Hid (RowAt (wr.setCell ⟨bo, m, none⟩ (.int .u8 ((q % 256 : Nat) : Int))) bo 5 (bv c')) := Lib.hid hb'
      have D4 : Hid (Hf n (k + 1) c') := Lib.hid (by rw [hc', HM.out, HQ.out]; exact HHD.out.set hlt)
      have B4 := Lib.hid (HRB.out.setCell (p := ⟨bo, m, none⟩) HBO.out.1 (.int .u8 ((q % 256 : Nat) : Int)))
      have hsz4 : (wr.setCell ⟨bo, m, none⟩ (.int .u8 ((q % 256 : Nat) : Int))).heap.size = wr.heap.size := by simp
      clear hc hf hc' hb' hrr
      rw [show ((q : Int) % 256) = ((q % 256 : Nat) : Int) by omega]
      generalize wr.setCell ⟨bo, m, none⟩ (.int .u8 ((q % 256 : Nat) : Int)) = w4 at *
      have hwq : IntKind.i64.wrap ((q : Int) / 256) = (q : Int) / 256 := by
        have hqb : q ≤ n := by rw [HQ.out]; exact Nat.div_le_self _ _
        have := HN.out; have := HL.out
        exact IntWalk.i64_in _ (by omega)
      have hw : IntKind.i64.wrap ((m : Int) - 1) = (m : Int) - 1 := IntWalk.i64_in _ (by omega)
      clear HRB HHD hcl hin hd
      go_wp2_with fail
      go_roundw
      case rel => exact ⟨k + 1, q / 256, c', by omega, by have := HME.out; go_num, by rw [HQ.out, Nat.div_div_eq_div_mul, Nat.pow_succ], by go_num, R4.out, D4.out, B4.out, by omega⟩
      case measure => have := HME.out; simp only [intOf]; omega
    · have hd : decide ((3 : Int) - (k : Int) ≥ 0) = false := decide_eq_false (by omega)
      obtain rfl : k = 4 := by omega
      have HRR := Lib.hid hrr
      clear hrr hcl
      have hst := hrz
      have hcs : ∀ W : World, W.heap[bo]? = wr.heap[bo]? → (convert 22 9 (.slice (some ⟨bo, 0, none⟩) 4 4)).run Tryd.prog W = .ok (.string ⟨(be4 n).toArray⟩) W := fun W hW => by
        have h : BytesC (fun k => k = bo) W (.slice (some ⟨bo, 0, none⟩) (be4 n).length 4) (be4 n) := Or.inr ⟨_, 4, rfl, Nat.le_refl _, by unfold maxLen; omega, Or.inr rfl, fun j u hj => by
          have hr := HRR.out.kept hW
          rw [HHD.out.done] at hr
          rw [Addr.add_mid, Nat.zero_add, hr.cell j]
          exact hj⟩
        exact bytes_str h
      have HCS := Lib.hid hcs
      clear hcs
      go_upto_region 8 with fail
      go_wp2_with fail
      refine (HSUM.out _).mono ?_
      rintro e w5 ⟨rfl, hb5⟩
      obtain ⟨O, hO⟩ : ∃ O, O = sumN s := ⟨_, rfl⟩
      have hO32 : O.length = 32 := by rw [hO]; exact sumN_len _
      rw [← hO]
      have hn6 := IDAt.new w5
      have c6 := hn6.write (l := O) hO32
      have zo : (bv O).length = n32 := by rw [bv_len, hO32]; rfl
      have H6 := Lib.hid (hn6.put hO32)
      have hsz5 := hb5.size
      have hc5 := HCS.out ((w5.alloc (.cells (bv zeros).toArray 44)).setRow w5.heap.size (bv O).toArray) (by
        have := HBO.out
        rw [setRow_other _ w5.heap.size bo (bv O).toArray (by omega), Below.heap_alloc w5 _ bo (by omega)]
        exact hb5.block bo (by omega))
      have B6 := Lib.hid (below_setRow ((HRB.out.trans (hb5.mono HRB.out.size)).alloc (Nat.le_trans HRB.out.size hsz5) (.cells (bv zeros).toArray 44)) (Nat.le_trans HRB.out.size hsz5) (bv O).toArray)
      have HOS := Lib.hid hO
      clear hn6 hb5 hO
      go_wp2_with fail
      have hsz6 : ((w5.alloc (.cells (bv zeros).toArray 44)).setRow w5.heap.size (bv O).toArray).heap.size = w5.heap.size + 1 := by simp [World.setRow]
      generalize (w5.alloc (.cells (bv zeros).toArray 44)).setRow w5.heap.size (bv O).toArray = w6 at *
      have HZ6 : Hid (w.heap.size ≤ w5.heap.size) := Lib.hid (by have := HRB.out.size; omega)
      generalize w5.heap.size = b6 at *
      clear c6 zo hc5 hd
      go_loopw [7, 8] (fun x i wq => ∃ k : Nat, k ≤ 8 ∧ i = .int .i64 (k : Int) ∧ x = .string ⟨(be4 n ++ O.take k).toArray⟩ ∧ IDAt wq b6 O ∧ Below w.heap.size w wq ∧ b6 < wq.heap.size) (fun _ i _ => 8 - (intOf i).toNat)
      case atStart => exact ⟨0, by omega, rfl, by simp, H6.out, B6.out, by omega⟩
      case round =>
        obtain ⟨j, hj, rfl, rfl, hi, hbq, hzq⟩ := hrel
        have HI := Lib.hid hi
        have HBQ := Lib.hid hbq
        by_cases hlt : j < 8
        · have hd : decide ((j : Int) < 8) = true := decide_eq_true (by omega)
          have hjo : j < O.length := by rw [hO32]; omega
          have hcell := hi.cell j hjo
          have hin : j < 32 := by omega
          obtain ⟨c, hc⟩ : ∃ c, c = O[j] := ⟨_, rfl⟩
          rw [← hc] at hcell
          have HT : Hid (O.take (j + 1) = O.take j ++ [c]) := Lib.hid (by rw [List.take_succ_eq_append_getElem hjo, hc])
          clear hi hbq hjo hc
          obtain ⟨tx, htx⟩ : ∃ tx, tx = be4 n ++ O.take j := ⟨_, rfl⟩
          rw [← htx]
          have HTX := Lib.hid htx
          clear htx
          have hcv : ∀ W : World, (convert 22 9 (.slice (some ⟨W.heap.size, 0, none⟩) 1 1)).run Tryd.prog (W.alloc (.cells #[.int .u8 (c.toNat : Int)] 5)) = .ok (.string ⟨[c].toArray⟩) (W.alloc (.cells #[.int .u8 (c.toNat : Int)] 5)) := fun W => by
            have h : BytesC (fun k => k = W.heap.size) (W.alloc (.cells #[.int .u8 (c.toNat : Int)] 5)) (.slice (some ⟨W.heap.size, 0, none⟩) [c].length 1) [c] := Or.inr ⟨_, 1, rfl, Nat.le_refl _, by unfold maxLen; omega, Or.inr rfl, fun j u hj => by
              rw [Addr.add_mid, Nat.zero_add, cell_of_row _ _ _ _ _ _ (new_five W #[.int .u8 (c.toNat : Int)] 5)]
              simpa [bv] using hj⟩
            exact bytes_str h
          have hadd : tx.length + [c].length ≤ 9223372036854775807 := by
            have h := HTX.out
            rw [h, List.length_append, be4_len, List.length_take]
            show 4 + min j O.length + 1 ≤ _
            omega
          have hi9 := HI.out.kept (Below.heap_alloc wr (.cells #[.int .u8 (c.toNat : Int)] 5) b6 hzq)
          have hb9 := HBQ.out.alloc HBQ.out.size (.cells #[.int .u8 (c.toNat : Int)] 5)
          have hz9 : b6 < (wr.alloc (.cells #[.int .u8 (c.toNat : Int)] 5)).heap.size := by simp; omega
          have HI9 := Lib.hid hi9
          have HB9 := Lib.hid hb9
          have HZ9 := Lib.hid hz9
          clear hi9 hb9 hz9
          have hadd2 := str_add tx [c] (by rw [HTX.out, List.length_append, be4_len, List.length_take]; show 4 + min j O.length + 1 ≤ _; omega)
          replace hadd : tx.length + 1 ≤ 9223372036854775807 := hadd
          go_wp2_with fail
          go_roundw
          case rel => exact ⟨j + 1, by omega, by go_num, by rw [HT.out, ← List.append_assoc, ← HTX.out]; exact congrArg Value.string (str_cat tx [c]), HI9.out, HB9.out, HZ9.out⟩
          case measure => simp only [intOf]; omega
        · have hd : decide ((j : Int) < 8) = false := decide_eq_false (by omega)
          obtain rfl : j = 8 := by omega
          obtain ⟨tx, htx⟩ : ∃ tx, tx = be4 n ++ O.take 8 := ⟨_, rfl⟩
          rw [← htx]
          have HTX := Lib.hid htx
          have hadd2 := str_add tx s (by have := HL.out; rw [HTX.out, List.length_append, be4_len, List.length_take]; omega)
          have hadd3 : tx.length + s.length ≤ 9223372036854775807 := by have := HL.out; rw [HTX.out, List.length_append, be4_len, List.length_take]; omega
          have hadd4 : tx.length + n ≤ 9223372036854775807 := by rw [HN.out]; exact hadd3
          have HFR : Hid (tx ++ s = frameL s) := Lib.hid (by unfold frameL headL; rw [HTX.out, ← HOS.out, HN.out])
          have HBF := Lib.hid hbq
          clear htx hi hbq
          go_wp2_with fail
          go_ret
          exact ⟨by rw [← HFR.out]; exact congrArg (fun z => Ending.returned (Value.string z)) (str_cat tx s), HBF.out⟩
end Go.Proofs.YtgknihcpmpfocaaDoor
