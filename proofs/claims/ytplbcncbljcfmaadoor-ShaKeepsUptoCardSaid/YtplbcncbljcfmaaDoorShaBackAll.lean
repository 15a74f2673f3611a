/- The walk of the law ShaBack. -/
import Derived.Test.YtplbcncbljcfmaaDoorShaW
namespace Go.Proofs.YtplbcncbljcfmaaDoor
open Go.RowKit
attribute [local simp high] id_size id_zero

def True' (w : World) (e : Ending) (w' : World) : Prop := e = .returned (.bool true) ∧ Below w.heap.size w w'
set_option maxRecDepth 100000 in
set_option maxHeartbeats 4000000 in
theorem back_law (l s : List UInt8) (w : World) (hl : l.length = 32) (hE : Env w) : Calls Tryd.prog 5 #[.agg (bv l).toArray, .string ⟨s.toArray⟩] w (True' w) := by
  have HL := Lib.hid hl
  have HE := Lib.hid hE
  have i1 : IDAt (w.alloc (.cells (bv l).toArray 25)) w.heap.size l := ⟨hl, new_five w _ _⟩
  have hb1 := (Below.refl w.heap.size w).alloc (Nat.le_refl _) (.cells (bv l).toArray 25)
  have hs1 : (w.alloc (.cells (bv l).toArray 25)).heap.size = w.heap.size + 1 := by simp
  have I1 := Lib.hid i1
  have B1 := Lib.hid hb1
  have zl : (bv l).length = n32 := by rw [bv_len, hl]; rfl
  have hzl := zeros_len
  have HPA : Hid (∀ W, Calls Tryd.prog 18 #[.string ⟨(hexL l).toArray⟩] W fun e w' => e = .returned (.tuple #[.agg (bv l).toArray, .int .i64 0]) ∧ Below W.heap.size W w') := Lib.hid (fun W => by
    have h := parse_any (hexL l) W
    rw [parse_hex HL.out] at h
    exact h)
  have heq : ∀ W, (binOp .eql 25 (.agg (bv l).toArray) (.agg (bv l).toArray)).run Tryd.prog W = .ok (.bool true) W := fun W => by
    rw [id_eql W HL.out HL.out]; simp
  have hez : ∀ W, (binOp .eql 25 (.agg (bv zeros).toArray) (.agg (bv zeros).toArray)).run Tryd.prog W = .ok (.bool true) W := fun W => by
    rw [id_eql W rfl rfl]; simp
  have HPS := Lib.hid (fun W => parse_any s W)
  have HYL := Lib.hid (parseN_len s)
  have HHP : Hid ((parseN s).2 = 0 → hexL (parseN s).1 = s) := Lib.hid (fun h => (hex_parse h).1)
  have hpc := parseN_cases s
  obtain ⟨y, hy⟩ : ∃ y, y = (parseN s).1 := ⟨_, rfl⟩
  obtain ⟨c, hc⟩ : ∃ c, c = (parseN s).2 := ⟨_, rfl⟩
  rw [← hy, ← hc] at HPS HHP
  rw [← hy] at HYL
  have hpc2 : c = 0 ∨ (y = zeros ∧ c = 30) := by
    rcases hpc with h | h
    · exact Or.inl (hc.trans h)
    · exact Or.inr ⟨by rw [hy, h], by rw [hc, h]⟩
  have zyl : (bv y).length = n32 := by rw [bv_len, HYL.out]; rfl
  have HPC := Lib.hid hpc2
  clear hl hE i1 hb1 hy hc hpc hpc2
  go_enter Tryd.func5, Tryd.ntmps5
  go_wp2_with fail
  generalize w.alloc (.cells (bv l).toArray 25) = w1 at *
  refine (awake_any _ (HE.out.on B1.out)).mono ?_
  rintro e w2 ⟨rfl, hb2⟩
  have hs2 := hb2.size
  have c1 := (I1.out.kept (hb2.block _ (by omega))).cells
  have I2 := Lib.hid (I1.out.kept (hb2.block _ (by omega)))
  have B2 := Lib.hid (B1.out.trans (hb2.mono B1.out.size))
  clear hb2
  go_wp2_with fail
  clear c1
  refine (hex_any l _ HL.out).mono ?_
  rintro e w3 ⟨rfl, hb3⟩
  have hs3 := hb3.size
  have I3 := Lib.hid (I2.out.kept (hb3.block _ (by omega)))
  have B3 := Lib.hid (B2.out.trans (hb3.mono B2.out.size))
  clear hb3
  go_wp2_with fail
  refine (HPA.out _).mono ?_
  rintro e w4 ⟨rfl, hb4⟩
  have hs4 := hb4.size
  have i4 := IDAt.new w4
  have c1 := i4.write (l := l) HL.out
  have I4 := Lib.hid (I3.out.kept (hb4.block _ (by omega)))
  have B4 := Lib.hid (B3.out.trans (hb4.mono B3.out.size))
  clear hb4
  go_upto_region 4 with fail
  have K4 := Lib.hid (i4.put (l := l) HL.out)
  have K1 := Lib.hid ((I4.out.kept (Below.heap_alloc w4 (.cells (bv zeros).toArray 25) w.heap.size (by omega))).kept (setRow_other _ w4.heap.size w.heap.size (bv l).toArray (by omega)))
  have B5 := Lib.hid (below_setRow (B4.out.alloc B4.out.size (.cells (bv zeros).toArray 25)) (show w.heap.size ≤ w4.heap.size by omega) (bv l).toArray)
  clear c1 i4 I4 B4
  generalize (w4.alloc (.cells (bv zeros).toArray 25)).setRow w4.heap.size (bv l).toArray = w5 at *
  have hs5 : w4.heap.size < w5.heap.size := (Array.getElem?_eq_some_iff.1 K4.out.blk).1
  go_wp2_with fail
  refine (HPS.out _).mono ?_
  rintro e w6 ⟨rfl, hb6⟩
  have hs6 := hb6.size
  have i6 := IDAt.new w6
  have c1 := i6.write (l := y) HYL.out
  have I4 := Lib.hid (K4.out.kept (hb6.block _ (by omega)))
  have I1 := Lib.hid (K1.out.kept (hb6.block _ (by omega)))
  have B6 := Lib.hid (B5.out.trans (hb6.mono B5.out.size))
  clear hb6
  go_upto_region 5 with fail
  have K6 := Lib.hid (i6.put (l := y) HYL.out)
  have K4 := Lib.hid ((I4.out.kept (Below.heap_alloc w6 (.cells (bv zeros).toArray 25) w4.heap.size (by omega))).kept (setRow_other _ w6.heap.size w4.heap.size (bv y).toArray (by omega)))
  have K1 := Lib.hid ((I1.out.kept (Below.heap_alloc w6 (.cells (bv zeros).toArray 25) w.heap.size (by omega))).kept (setRow_other _ w6.heap.size w.heap.size (bv y).toArray (by omega)))
  have B7 := Lib.hid (below_setRow (B6.out.alloc B6.out.size (.cells (bv zeros).toArray 25)) (show w.heap.size ≤ w6.heap.size by omega) (bv y).toArray)
  clear c1 i6 I4 I1 B6
  generalize (w6.alloc (.cells (bv zeros).toArray 25)).setRow w6.heap.size (bv y).toArray = w7 at *
  have d4 := K4.out.cells
  have d1 := K1.out.cells
  have d6 := K6.out.cells
  rcases HPC.out with h0 | ⟨hyz, h30⟩
  · subst h0
    have HH := Lib.hid (HHP.out rfl)
    have HHY : Hid (∀ W, Calls Tryd.prog 20 #[.agg (bv y).toArray] W fun e w' => e = .returned (.string ⟨s.toArray⟩) ∧ Below W.heap.size W w') := Lib.hid (fun W => by
      have h := hex_any y W HYL.out
      rw [HH.out] at h
      exact h)
    go_wp2_with fail
    refine (HHY.out _).mono ?_
    rintro e w8 ⟨rfl, hb8⟩
    have B8 := Lib.hid (B7.out.trans (hb8.mono B7.out.size))
    clear hb8
    go_wp2_with fail
    go_ret
    exact ⟨rfl, B8.out⟩
  · subst hyz h30
    go_wp2_with fail
    go_ret
    exact ⟨rfl, B7.out⟩
end Go.Proofs.YtplbcncbljcfmaaDoor
