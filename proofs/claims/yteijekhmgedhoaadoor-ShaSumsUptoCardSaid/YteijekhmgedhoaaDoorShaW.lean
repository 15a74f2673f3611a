/- The walk of awake. -/
import Derived.Test.YteijekhmgedhoaaDoorShaV
import Derived.Test.YteijekhmgedhoaaDoorShaP
import Derived.Test.YteijekhmgedhoaaDoorShaX
import Derived.Lib.SlBytesConst
namespace Go.Proofs.YteijekhmgedhoaaDoor
open Go.RowKit
attribute [local simp high] id_size id_zero

def abcL : List UInt8 := [98, 97, 55, 56, 49, 54, 98, 102, 56, 102, 48, 49, 99, 102, 101, 97, 52, 49, 52, 49, 52, 48, 100, 101, 53, 100, 97, 101, 50, 50, 50, 51, 98, 48, 48, 51, 54, 49, 97, 51, 57, 54, 49, 55, 55, 97, 57, 99, 98, 52, 49, 48, 102, 102, 54, 49, 102, 50, 48, 48, 49, 53, 97, 100]
/-- The two slices of three letters. -/
def twoW (w : World) : World := ((w.alloc (.cells #[.int .u8 97] 5 (1, 2))).alloc (.cells #[.int .u8 98, .int .u8 99] 5 (2, 3))).alloc (.cells #[.slice (some ⟨w.heap.size, 0, none⟩) 1 1, .slice (some ⟨w.heap.size + 1, 0, none⟩) 2 2] 22)
theorem two_size (w : World) : (twoW w).heap.size = w.heap.size + 3 := by unfold twoW; simp
theorem new_mark (w : World) (cs : Array Value) (t : TypeId) (fr : Nat × Nat) : (w.alloc (.cells cs t fr)).heap[w.heap.size]? = some (.cells cs t fr) := by
  show (w.heap.push _)[w.heap.size]? = _
  rw [Array.getElem?_push, if_pos rfl]
theorem two_0 (w : World) : (twoW w).heap[w.heap.size]? = some (.cells #[.int .u8 97] 5 (1, 2)) := by
  unfold twoW
  rw [Below.heap_alloc _ _ _ (by simp; omega), Below.heap_alloc _ _ _ (by simp), new_mark]
theorem two_1 (w : World) : (twoW w).heap[w.heap.size + 1]? = some (.cells #[.int .u8 98, .int .u8 99] 5 (2, 3)) := by
  unfold twoW
  rw [Below.heap_alloc _ _ _ (by simp)]
  have := new_mark (w.alloc (.cells #[.int .u8 97] 5 (1, 2))) #[.int .u8 98, .int .u8 99] 5 (2, 3)
  rwa [World.size_alloc] at this
theorem two_2 (w : World) : (twoW w).heap[w.heap.size + 1 + 1]? = some (.cells #[.slice (some ⟨w.heap.size, 0, none⟩) 1 1, .slice (some ⟨w.heap.size + 1, 0, none⟩) 2 2] 22 (0, 0)) := by
  unfold twoW
  have := new_five ((w.alloc (.cells #[.int .u8 97] 5 (1, 2))).alloc (.cells #[.int .u8 98, .int .u8 99] 5 (2, 3))) #[.slice (some ⟨w.heap.size, 0, none⟩) 1 1, .slice (some ⟨w.heap.size + 1, 0, none⟩) 2 2] 22
  rwa [World.size_alloc, World.size_alloc] at this
theorem two_below (w : World) : Below w.heap.size w (twoW w) := by
  unfold twoW
  exact (((Below.refl _ _).alloc (Nat.le_refl _) _).alloc (by simp) _).alloc (by simp; omega) _
theorem chunks_two (w : World) : ChunksC (fun k => w.heap.size ≤ k ∧ k < w.heap.size + 3) (twoW w) (.slice (some ⟨w.heap.size + 1 + 1, 0, none⟩) 2 2) [[97], [98, 99]] := by
  refine Or.inr ⟨_, 2, rfl, by decide, by unfold maxLen; omega, Or.inr ⟨by show w.heap.size ≤ w.heap.size + 1 + 1; omega, by show w.heap.size + 1 + 1 < w.heap.size + 3; omega⟩, fun j l hj => ?_⟩
  rw [Addr.add_mid]
  match j, hj with
  | 0, hj =>
    obtain rfl : [97] = l := by simpa using hj
    refine ⟨_, (cell_of_row _ _ 0 _ _ _ (two_2 w)).trans rfl, Or.inr ⟨⟨w.heap.size, 0, none⟩, 1, rfl, by decide, by unfold maxLen; omega, Or.inr ⟨by show w.heap.size ≤ w.heap.size; omega, by show w.heap.size < w.heap.size + 3; omega⟩, fun i u hi => ?_⟩⟩
    rw [Addr.add_mid, cell_of_row _ _ _ _ _ _ (two_0 w)]
    simpa [bv] using hi
  | 1, hj =>
    obtain rfl : [98, 99] = l := by simpa using hj
    refine ⟨_, (cell_of_row _ _ 1 _ _ _ (two_2 w)).trans rfl, Or.inr ⟨⟨w.heap.size + 1, 0, none⟩, 2, rfl, by decide, by unfold maxLen; omega, Or.inr ⟨by show w.heap.size ≤ w.heap.size + 1; omega, by show w.heap.size + 1 < w.heap.size + 3; omega⟩, fun i u hi => ?_⟩⟩
    rw [Addr.add_mid, cell_of_row _ _ _ _ _ _ (two_1 w)]
    simpa [bv] using hi
  | j + 2, hj => simp at hj
theorem sum_two (w : World) (hE : Env w) : ∃ O : List UInt8, O.length = 32 ∧ hexL O = abcL ∧ Calls Tryd.prog 13 #[.slice (some ⟨w.heap.size + 1 + 1, 0, none⟩) 2 2] (twoW w) fun e w' => e = .returned (.agg (bv O).toArray) ∧ Below (twoW w).heap.size (twoW w) w' := by
  have h := sum_any _ _ [[97], [98, 99]] (twoW w) (fun k hk => by rw [two_size]; exact hk.2) (chunks_two w) (by decide) (by decide) (hE.on (two_below w))
  have e : [[(97 : UInt8)], [98, 99]].flatten = [97, 98, 99] := rfl
  rw [e] at h
  exact ⟨sumN [97, 98, 99], sumN_len _, sum_abc, h⟩
set_option maxRecDepth 100000 in
set_option maxHeartbeats 4000000 in
theorem awake_any (w : World) (hE : Env w) : Calls Tryd.prog 11 #[] w fun e w' => e = .returned (.bool true) ∧ Below w.heap.size w w' := by
  obtain ⟨O, hl, hx, hc⟩ := sum_two w hE
  have HC := Lib.hid hc
  have HL := Lib.hid hl
  have HX := Lib.hid hx
  have HPA : Hid (∀ W, Calls Tryd.prog 31 #[.string ⟨#[98, 97, 55, 56, 49, 54, 98, 102, 56, 102, 48, 49, 99, 102, 101, 97, 52, 49, 52, 49, 52, 48, 100, 101, 53, 100, 97, 101, 50, 50, 50, 51, 98, 48, 48, 51, 54, 49, 97, 51, 57, 54, 49, 55, 55, 97, 57, 99, 98, 52, 49, 48, 102, 102, 54, 49, 102, 50, 48, 48, 49, 53, 97, 100]⟩] W fun e w' => e = .returned (.tuple #[.agg (bv O).toArray, .int .i64 0]) ∧ Below W.heap.size W w') := Lib.hid (fun W => by
    have h := parse_any abcL W
    rw [← HX.out, parse_hex HL.out, HX.out] at h
    exact h)
  have HHX : Hid (∀ W, Calls Tryd.prog 32 #[.agg (bv O).toArray] W fun e w' => e = .returned (.string ⟨#[98, 97, 55, 56, 49, 54, 98, 102, 56, 102, 48, 49, 99, 102, 101, 97, 52, 49, 52, 49, 52, 48, 100, 101, 53, 100, 97, 101, 50, 50, 50, 51, 98, 48, 48, 51, 54, 49, 97, 51, 57, 54, 49, 55, 55, 97, 57, 99, 98, 52, 49, 48, 102, 102, 54, 49, 102, 50, 48, 48, 49, 53, 97, 100]⟩) ∧ Below W.heap.size W w') := Lib.hid (fun W => by
    have h := hex_any O W HL.out
    rw [HX.out] at h
    exact h)
  have HSH : Hid (∀ W, Calls Tryd.prog 33 #[.agg (bv O).toArray, .slice none 0 0] W fun e w' => e = .returned (.string ⟨#[98, 97, 55, 56]⟩) ∧ Below W.heap.size W w') := Lib.hid (fun W => by
    have h := short_any (fun _ => False) O (.slice none 0 0) [] W HL.out (by decide) (fun k hk => hk.elim) (Or.inl ⟨rfl, none, 0, rfl⟩)
    rw [HX.out] at h
    exact h)
  have heq : ∀ W, (binOp .eql 25 (.agg (bv O).toArray) (.agg (bv O).toArray)).run Tryd.prog W = .ok (.bool true) W := fun W => by
    rw [id_eql W HL.out HL.out]; simp
  have kc := fun (w : World) (C : Array Value) (n c : Nat) => Lib.run_convert_bytes_const (P := Tryd.prog) w 22 5 C n c Tryd.underlying22 Tryd.underlying5
  have k2 := kc (w.alloc (.cells #[.int .u8 97] 5 (1, 2))) #[.int .u8 98, .int .u8 99] 2 2
  rw [World.size_alloc] at k2
  clear hE hc hl hx
  go_enter Tryd.func11, Tryd.ntmps11
  go_wp2_with fail
  refine HC.out.mono ?_
  rintro e w2 ⟨rfl, hb2⟩
  have hb2' := hb2.size
  have B2 := Lib.hid ((two_below w).trans (hb2.mono (by rw [two_size]; omega)))
  rw [two_size] at hb2'
  have i2 := IDAt.new w2
  have c1 := i2.write (l := O) HL.out
  have zl : (bv O).length = n32 := by rw [bv_len, HL.out]; rfl
  clear hb2 kc k2 HC
  go_upto_region 2 with fail
  have J2 := Lib.hid (i2.put (l := O) HL.out)
  have B3 := Lib.hid (below_setRow (B2.out.alloc B2.out.size (.cells (bv zeros).toArray 25)) (show w.heap.size ≤ w2.heap.size by omega) (bv O).toArray)
  have hs3 : ((w2.alloc (.cells (bv zeros).toArray 25)).setRow w2.heap.size (bv O).toArray).heap.size = w2.heap.size + 1 := by simp [World.setRow]
  clear c1 i2 B2
  generalize (w2.alloc (.cells (bv zeros).toArray 25)).setRow w2.heap.size (bv O).toArray = w3 at *
  go_wp2_with fail
  refine (HPA.out _).mono ?_
  rintro e w4 ⟨rfl, hb4⟩
  have hs4 := hb4.size
  have i4 := IDAt.new w4
  have c1 := i4.write (l := O) HL.out
  have J4 := Lib.hid (J2.out.kept (hb4.block _ (by omega)))
  have B4 := Lib.hid (B3.out.trans (hb4.mono (by omega)))
  clear hb4
  go_upto_region 3 with fail
  have K4 := Lib.hid (i4.put (l := O) HL.out)
  have K2 := Lib.hid ((J4.out.kept (Below.heap_alloc w4 (.cells (bv zeros).toArray 25) w2.heap.size (by omega))).kept (setRow_other _ w4.heap.size w2.heap.size (bv O).toArray (by omega)))
  have B5 := Lib.hid (below_setRow (B4.out.alloc B4.out.size (.cells (bv zeros).toArray 25)) (show w.heap.size ≤ w4.heap.size by omega) (bv O).toArray)
  clear c1 i4 J4 B4
  generalize (w4.alloc (.cells (bv zeros).toArray 25)).setRow w4.heap.size (bv O).toArray = w5 at *
  have c1 := K4.out.cells
  have c2 := K2.out.cells
  have hs5 : w2.heap.size < w5.heap.size := (Array.getElem?_eq_some_iff.1 K2.out.blk).1
  go_wp2_with fail
  refine (HHX.out _).mono ?_
  rintro e w6 ⟨rfl, hb6⟩
  have c3 := (K2.out.kept (hb6.block _ hs5)).cells
  have B6 := Lib.hid (B5.out.trans (hb6.mono B5.out.size))
  clear hb6
  go_wp2_with fail
  refine (HSH.out _).mono ?_
  rintro e w7 ⟨rfl, hb7⟩
  have B7 := Lib.hid (B6.out.trans (hb7.mono B6.out.size))
  clear hb7
  go_wp2_with fail
  go_ret
  exact ⟨rfl, B7.out⟩
end Go.Proofs.YteijekhmgedhoaaDoor
