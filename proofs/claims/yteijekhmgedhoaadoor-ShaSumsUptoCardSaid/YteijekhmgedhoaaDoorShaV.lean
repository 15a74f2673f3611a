/- The walk of Short. -/
import Derived.Test.YteijekhmgedhoaaDoorShaU
namespace Go.Proofs.YteijekhmgedhoaaDoor
open Go.RowKit
attribute [local simp high] id_size id_zero

set_option maxRecDepth 100000 in
set_option maxHeartbeats 4000000 in
theorem short_any (S : Nat → Prop) (l : List UInt8) (v : Value) (ts : List (List UInt8)) (w : World) (hl : l.length = 32) (hts : ts.length ≤ 9223372036854775807) (hS : ∀ k, S k → k < w.heap.size) (hv : IDsC S w v ts) :
    Calls Tryd.prog 33 #[.agg (bv l).toArray, v] w fun e w' => e = .returned (.string ⟨((hexL l).take (shortAt (hexL l) ts ts.length)).toArray⟩) ∧ Below w.heap.size w w' := by
  obtain ⟨a, cap, rfl⟩ := hv.shape
  have HS := Lib.hid hS
  have HV := Lib.hid hv
  have HL := Lib.hid hl
  have i1 : IDAt (w.alloc (.cells (bv l).toArray 25)) w.heap.size l := ⟨hl, new_five w _ _⟩
  have hb1 := (Below.refl w.heap.size w).alloc (Nat.le_refl _) (.cells (bv l).toArray 25)
  have hs1 : (w.alloc (.cells (bv l).toArray 25)).heap.size = w.heap.size + 1 := by simp
  have HB := Lib.hid hb1
  have HI := Lib.hid i1
  have HT := Lib.hid hts
  clear hb1 i1 hv hS hl
  go_enter Tryd.func33, Tryd.ntmps33
  go_wp2_with fail
  generalize w.alloc (.cells (bv l).toArray 25) = w1 at *
  go_loopw [5, 10] (fun n i wr => ∃ j : Nat, j ≤ ts.length ∧ i = .int .i64 j ∧ n = .int .i64 (shortAt (hexL l) ts j : Nat) ∧ IDAt wr w.heap.size l ∧ Below w.heap.size w wr ∧ w.heap.size < wr.heap.size) (fun _ i _ => ts.length - (intOf i).toNat)
  case atStart => exact ⟨0, Nat.zero_le _, rfl, rfl, HI.out, HB.out, by omega⟩
  case round =>
    obtain ⟨j, hj, rfl, rfl, hid, hbw, hsz⟩ := hrel
    have HBW := Lib.hid hbw
    have HI2 := Lib.hid hid
    clear hbw hid HI HB hs1
    by_cases hlt : j < ts.length
    · have hv : IDsC S wr (.slice a ts.length cap) ts := HV.out.kept (fun k hk => ⟨hk, HBW.out.block k (HS.out k hk)⟩)
      rcases a with _ | a
      · rcases hv with ⟨h0, _⟩ | ⟨a', cap', h1, _⟩
        · rw [h0] at hlt; exact absurd hlt (by simp)
        · exact absurd h1 (by simp)
      have c4 := hv.cells j hlt
      have HTL := Lib.hid (hv.len j hlt)
      have HSJ : Hid (shortAt (hexL l) ts (j + 1) = stepN (shortAt (hexL l) ts j) (pfx (hexL l) (hexL (ts.getD j [])) 64 0)) := Lib.hid rfl
      have HN := Lib.hid (shortAt_le (hexL l) ts j)
      clear hv
      generalize ts.getD j [] = t at *
      have hal := Below.heap_alloc wr (.cells (bv zeros).toArray 25)
      have I3 := Lib.hid (IDAt.new wr)
      have I2 := Lib.hid (HI2.out.kept (hal _ (by omega)))
      have B3 := Lib.hid (HBW.out.alloc (by omega) (.cells (bv zeros).toArray 25))
      have c5 := I3.out.write (l := t) HTL.out
      have ztl : (bv t).length = n32 := by rw [bv_len, HTL.out]; rfl
      have hs3 : (wr.alloc (.cells (bv zeros).toArray 25)).heap.size = wr.heap.size + 1 := by simp
      clear hal
      go_upto_region 5 with fail
      have J3 := Lib.hid (I3.out.put (l := t) HTL.out)
      have J2 := Lib.hid (I2.out.kept (setRow_other _ wr.heap.size w.heap.size (bv t).toArray (by omega)))
      have JB := Lib.hid (below_setRow B3.out (show w.heap.size ≤ wr.heap.size by omega) (bv t).toArray)
      have hs4 : ((wr.alloc (.cells (bv zeros).toArray 25)).setRow wr.heap.size (bv t).toArray).heap.size = wr.heap.size + 1 := by simp [World.setRow, hs3]
      clear c4 c5 ztl I3 I2 B3 hs3 HI2 HBW
      generalize (wr.alloc (.cells (bv zeros).toArray 25)).setRow wr.heap.size (bv t).toArray = w4 at *
      have d1 := J3.out.cells
      have d2 := J2.out.cells
      have hne := fun W => id_neq W HTL.out HL.out
      by_cases htl : t = l
      · have hdt : decide (t ≠ l) = false := by simpa using htl
        rw [hdt] at hne
        have HST : Hid (shortAt (hexL l) ts (j + 1) = shortAt (hexL l) ts j) := Lib.hid (HSJ.out.trans (by rw [htl]; exact step_same l _))
        clear htl hdt
        go_wp2_with fail
        go_roundw
        case rel => exact ⟨j + 1, by omega, by go_num, by rw [HST.out], J2.out, JB.out, by omega⟩
        case measure => simp [intOf]; omega
      · have hdt : decide (t ≠ l) = true := by simpa using htl
        rw [hdt] at hne
        have HST := Lib.hid (HSJ.out.trans (step_max HL.out HTL.out (fun e => htl e.symm) _))
        have hn1 := HN.out
        have hp1 := pfx_lt64 (hexL l) (hexL t)
        have HCA := Lib.hid (fun W => common_any l t W HL.out HTL.out)
        clear htl hdt
        generalize pfx (hexL l) (hexL t) 64 0 = c at *
        generalize shortAt (hexL l) ts j = n at *
        go_wp2_with fail
        refine (HCA.out _).mono ?_
        rintro e w5 ⟨rfl, hb5⟩
        have K2 := Lib.hid (J2.out.kept (w' := w5) (hb5.block _ (by omega)))
        have KB := Lib.hid (JB.out.trans (hb5.mono (by omega)))
        have hs5 := hb5.size
        clear hb5 d1 d2
        go_wp2_with fail
        go_roundw
        case rel => exact ⟨j + 1, by omega, by go_num, by rw [HST.out]; congr 1; omega, K2.out, KB.out, by omega⟩
        case measure => simp [intOf]; omega
    · have hjn : j = ts.length := by omega
      subst hjn
      have hn := shortAt_le (hexL l) ts ts.length
      have HLS : Hid ((hexL l).length = 64) := Lib.hid (by rw [hexL_len, HL.out])
      have hn2 : shortAt (hexL l) ts ts.length ≤ (hexL l).length := by rw [HLS.out]; exact hn.2
      have d2 := HI2.out.cells
      have HHX := Lib.hid (fun W => hex_any l W HL.out)
      have HFI : Hid (∀ n H, n = shortAt (hexL l) ts ts.length → H = hexL l → H.take n = (hexL l).take (shortAt (hexL l) ts ts.length)) := Lib.hid (fun n H h1 h2 => by rw [h1, h2])
      obtain ⟨n, hn'⟩ : ∃ n, n = shortAt (hexL l) ts ts.length := ⟨_, rfl⟩
      obtain ⟨H, hH⟩ : ∃ H, H = hexL l := ⟨_, rfl⟩
      have HF2 := Lib.hid (HFI.out n H hn' hH)
      rw [← hn'] at hn hn2 ⊢
      rw [← hH] at HHX hn2 HLS
      clear hn' hH HFI
      go_wp2_with fail
      refine (HHX.out _).mono ?_
      rintro e w5 ⟨rfl, hb5⟩
      have KB := Lib.hid (HBW.out.trans (hb5.mono (by omega)))
      clear hb5 d2
      go_wp2_with fail
      go_ret
      exact ⟨by rw [extract_list, ← HF2.out]; simp, KB.out⟩
end Go.Proofs.YteijekhmgedhoaaDoor
