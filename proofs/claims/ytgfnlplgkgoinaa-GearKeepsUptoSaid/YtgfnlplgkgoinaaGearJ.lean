/- Awake. -/
import Derived.Test.YtgfnlplgkgoinaaGearI
import Derived.Lib.SlBytesConst
namespace Go.Proofs.Ytgfnlplgkgoinaa
open Go.RowKit

def True' (w : World) (e : Ending) (w' : World) : Prop := e = .returned (.bool true) ∧ Below w.heap.size w w'
theorem nextLen_zero (least most : Nat) (l : List UInt8) (h : least ≤ l.length) (h1 : 1 ≤ least) (h2 : least ≤ most) : nextLen least most 0 l = least := by
  obtain ⟨k, rfl⟩ : ∃ k, least = k + 1 := ⟨least - 1, by omega⟩
  refine next_end h h2 (fun j a b => ?_) ?_
  · unfold byC; rw [decide_eq_false (by omega)]; rfl
  · unfold byC endsN; simp
theorem abcde_cut : cutL 2 9 0 [97, 98, 99, 100, 101] = [2, 2, 1] := by
  have e1 : nextLen 2 9 0 [97, 98, 99, 100, 101] = 2 := nextLen_zero _ _ _ (by decide) (by decide) (by decide)
  have e2 : nextLen 2 9 0 [99, 100, 101] = 2 := nextLen_zero _ _ _ (by decide) (by decide) (by decide)
  have e3 : nextLen 2 9 0 [101] = 1 := rfl
  rw [cutL_cons (by simp), e1]
  show 2 :: cutL 2 9 0 [99, 100, 101] = _
  rw [cutL_cons (by simp), e2]
  show 2 :: 2 :: cutL 2 9 0 [101] = _
  rw [cutL_cons (by simp), e3]
  show 2 :: 2 :: 1 :: cutL 2 9 0 [] = _
  rw [cutL_nil]
theorem gear01 : gearN 0 ≠ gearN 1 := by decide +kernel
theorem abcde_c (w : World) : BytesC (fun k => w.heap.size ≤ k ∧ k < w.heap.size + 1) (w.alloc (.cells #[.int .u8 97, .int .u8 98, .int .u8 99, .int .u8 100, .int .u8 101] 5 (5, 6))) (.slice (some ⟨w.heap.size, 0, none⟩) 5 5) [97, 98, 99, 100, 101] := by
  refine Or.inr ⟨⟨w.heap.size, 0, none⟩, 5, rfl, Nat.le_refl _, by unfold maxLen; omega, Or.inr ⟨Nat.le_refl _, Nat.lt_succ_self _⟩, fun j u hj => ?_⟩
  have e : (⟨w.heap.size, 0, none⟩ : Addr).add j = ⟨w.heap.size, j, none⟩ := by simp [Addr.add]; omega
  rw [e]
  rw [World.cell?_alloc_mark]
  match j, hj with
  | 0, hj => exact hj
  | 1, hj => exact hj
  | 2, hj => exact hj
  | 3, hj => exact hj
  | 4, hj => exact hj
  | j + 5, hj => simp [bv] at hj
set_option maxRecDepth 100000 in
set_option maxHeartbeats 1000000 in
theorem awake_any (w : World) : Calls Try.prog 8 #[] w (True' w) := by
  have hbd : Hid (∀ w, Calls Try.prog 9 #[.slice none 0 0, par 0 0 0] w fun e w' => e = .returned (.tuple #[.slice none 0 0, .int .i64 1]) ∧ Below w.heap.size w w') := Lib.hid (fun w => cut_bad _ 0 0 0 w rfl)
  have HC := Lib.hid (cut_ok _ _ _ 2 9 0 _ (fun k hk => by have := hk.2; simp; omega) (abcde_c w) (by decide) rfl)
  have hg0 := Lib.hid (fun w => gear_any 0 w (by omega))
  have hg1 := Lib.hid (fun w => gear_any 1 w (by omega))
  have hne := gear01
  have hne2 : (((gearN 0 : Nat) : Int) != ((gearN 1 : Nat) : Int)) = true := by rw [bne_iff_ne]; omega
  have HNE := Lib.hid hne2
  have HB1 : Hid (Below w.heap.size w (w.alloc (.cells #[.int .u8 97, .int .u8 98, .int .u8 99, .int .u8 100, .int .u8 101] 5 (5, 6)))) := Lib.hid ((Below.refl _ _).alloc (Nat.le_refl _) _)
  rw [abcde_cut] at HC
  have kc := fun (w : World) (C : Array Value) (n c : Nat) => Lib.run_convert_bytes_const (P := Try.prog) w 22 5 C n c Try.underlying22 Try.underlying5
  clear hne hne2
  generalize gearN 0 = g0 at *
  generalize gearN 1 = g1 at *
  go_enter Try.func8, Try.ntmps8
  go_wp2_with fail
  refine HC.out.mono ?_
  rintro e w2 ⟨v2, rfl, hown, hb2⟩
  have hs2 := hb2.size
  simp at hs2
  have HB2 := Lib.hid (HB1.out.trans (hb2.mono (by simp)))
  rcases hown.2 with ⟨_, h0⟩ | ⟨g, cap, cur, rfl, hgB, hgc, hgn, hgm, _⟩
  · simp at h0
  have hgl : g < w2.heap.size := (Array.getElem?_eq_some_iff.1 hgc).1
  have d0 := World.ownsRow.cells hown rfl 0 (.int .i64 2) rfl
  have d2 := World.ownsRow.cells hown rfl 2 (.int .i64 1) rfl
  have D0 := Lib.hid d0
  have D2 := Lib.hid d2
  clear hown hb2 hgc d0 d2
  go_wp2_with fail
  refine (hbd.out _).mono ?_
  rintro e w3 ⟨rfl, hb3⟩
  have HB3 := Lib.hid (HB2.out.trans (hb3.mono (by omega)))
  have d0 := (hb3.cell (p := (⟨g, 0, none⟩ : Addr).add 0) (by rw [add_block]; exact hgl)).trans D0.out
  have d2 := (hb3.cell (p := (⟨g, 0, none⟩ : Addr).add 2) (by rw [add_block]; exact hgl)).trans D2.out
  rw [add_none] at d0
  have e2 : (⟨g, 0, none⟩ : Addr).add 2 = ⟨g, 2, none⟩ := by simp [Addr.add]
  rw [e2] at d2
  clear hb3 e2
  go_wp2_with fail
  refine (hg0.out _).mono ?_
  rintro e w4 ⟨rfl, rfl⟩
  go_wp2_with fail
  refine (hg1.out _).mono ?_
  rintro e w4 ⟨rfl, rfl⟩
  have hne := HNE.out
  go_wp2_with fail
  go_ret
  exact ⟨rfl, HB3.out⟩
end Go.Proofs.Ytgfnlplgkgoinaa
