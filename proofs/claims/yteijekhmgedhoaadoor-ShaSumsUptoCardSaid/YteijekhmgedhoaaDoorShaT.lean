/- The walk of Parse. -/
import Derived.Test.YteijekhmgedhoaaDoorShaS
import Derived.Test.YteijekhmgedhoaaDoorShelf
namespace Go.Proofs.YteijekhmgedhoaaDoor
open Go.RowKit
attribute [local simp high] id_size id_zero

theorem index_val_key : ∀ n, n < 256 → Lib.indexByte digits16 (UInt8.ofNat n) = val (UInt8.ofNat n) := by decide +kernel
theorem index_val (c : UInt8) : Lib.indexByte digits16 c = val c := by
  have := index_val_key c.toNat c.toNat_lt
  rwa [UInt8.ofNat_toNat] at this
theorem index_digits (c : UInt8) (w : World) : Calls Tryd.prog 63 #[.string ⟨#[48, 49, 50, 51, 52, 53, 54, 55, 56, 57, 97, 98, 99, 100, 101, 102]⟩, .int .u8 ((c.toNat : Nat) : Int)] w fun e w' => e = .returned (.int .i64 (val c)) ∧ w = w' := by
  refine (Tryd.strings_IndexByte ⟨#[48, 49, 50, 51, 52, 53, 54, 55, 56, 57, 97, 98, 99, 100, 101, 102]⟩ ((c.toNat : Nat) : Int) w).mono ?_
  rintro e w' ⟨he, hw⟩
  refine ⟨?_, hw.symm⟩
  rw [he, ← index_val c]
  have e1 : ((c.toNat : Nat) : Int).toNat.toUInt8 = c := by simp
  rw [e1]
  rfl
set_option maxRecDepth 100000 in
set_option maxHeartbeats 2000000 in
theorem parse_any (s : List UInt8) (w : World) : Calls Tryd.prog 31 #[.string ⟨s.toArray⟩] w fun e w' => e = .returned (.tuple #[.agg (bv (parseN s).1).toArray, .int .i64 ((parseN s).2 : Nat)]) ∧ Below w.heap.size w w' := by
  have zl := zeros_len
  have i1 := IDAt.new w
  have hb1 := (Below.refl w.heap.size w).alloc (Nat.le_refl _) (.cells (bv zeros).toArray 25)
  have hsz : (w.alloc (.cells (bv zeros).toArray 25)).heap.size = w.heap.size + 1 := by simp
  have I1 := Lib.hid i1
  have B1 := Lib.hid hb1
  have HZ := Lib.hid hsz
  clear i1 hb1 hsz
  go_enter Tryd.func31, Tryd.ntmps31
  by_cases hl : s.length = 64
  · have HL := Lib.hid hl
    have hne : ((s.length : Int) != 64) = false := by simp [hl]
    have i2 := IDAt.new (w.alloc (.cells (bv zeros).toArray 25))
    rw [HZ.out] at i2
    have I2 := Lib.hid i2
    have I1' := Lib.hid (I1.out.kept (Below.heap_alloc (w.alloc (.cells (bv zeros).toArray 25)) (.cells (bv zeros).toArray 25) w.heap.size (by simp)))
    have B2 := Lib.hid (B1.out.alloc (by simp) (.cells (bv zeros).toArray 25))
    clear hl i2 I1 B1 HZ
    go_wp2_with fail
    clear hne zl
    generalize (w.alloc (Obj.cells (bv zeros).toArray 25)).alloc (Obj.cells (bv zeros).toArray 25) = w2 at *
    go_loopw [11] (fun i wr => ∃ j : Nat, j ≤ 64 ∧ i = .int .i64 j ∧ allDig s j ∧ IDAt wr w.heap.size zeros ∧ IDAt wr (w.heap.size + 1) (outAt s j) ∧ Below w.heap.size w wr) (fun i _ => 64 - (intOf i).toNat)
    case atStart => exact ⟨0, Nat.zero_le _, rfl, fun j hj => absurd hj (by omega), I1'.out, I2.out, B2.out⟩
    case round =>
      obtain ⟨j, hj, rfl, had, hi1, hi2, hbw⟩ := hrel
      have J1 := Lib.hid hi1
      have J2 := Lib.hid hi2
      have JB := Lib.hid hbw
      have HAD := Lib.hid had
      clear hi1 hi2 hbw had I1' I2 B2
      by_cases hlt : j < 64
      · have hix : ∀ w, (Instr.index 9 (.string ⟨s.toArray⟩) (.int .i64 (j : Int))).run Tryd.prog w = .ok (.int .u8 ((s.getD j 0).toNat : Nat)) w := fun w => indexS w s j (by rw [HL.out]; exact hlt)
        have HO : Hid (outAt s (j + 1) = (outAt s j).set (j / 2) (UInt8.ofNat (((((outAt s j).getD (j / 2) 0).toNat : Int) * 16 + val (s.getD j 0)) % 256).toNat)) := Lib.hid rfl
        have HPN : Hid (val (s.getD j 0) < 0 → parseN s = (zeros, 30)) := Lib.hid (fun h => by
          unfold parseN
          rw [if_neg (fun hh => ?_)]
          have := hh.2 j hlt
          omega)
        have HAN : Hid (¬ val (s.getD j 0) < 0 → allDig s (j + 1)) := Lib.hid (fun h i hi => by
          by_cases hij : i = j
          · subst hij; omega
          · exact HAD.out i (by omega))
        have HIV := Lib.hid (index_digits (s.getD j 0))
        have hv := val_lt (s.getD j 0)
        generalize s.getD j 0 = c at *
        obtain ⟨x0, hx0⟩ : ∃ x0, x0 = c.toNat := ⟨_, rfl⟩
        rw [← hx0] at hix HIV
        clear hx0
        generalize val c = v at *
        go_wp2_with fail
        refine (HIV.out _).mono ?_
        rintro e w3 ⟨rfl, rfl⟩
        clear hix
        by_cases hneg : v < 0
        · have c3 := J1.out.write (l := zeros) rfl
          rw [setRow_self _ _ _ _ _ J1.out.blk] at c3
          have HPQ := Lib.hid (HPN.out hneg)
          clear HPN
          have zl := zeros_len
          go_wp2_with fail
          rw [HPQ.out]
          exact bodyPost_ret (results_id rfl _ _ rfl rfl J1.out) rfl ⟨rfl, JB.out⟩
        · have HAQ := Lib.hid (HAN.out (by omega))
          have hc := J2.out.cell (j / 2) (by rw [outAt_len]; omega)
          have hf := J2.out.free (j / 2)
          have HX : Hid ((outAt s j)[j / 2]'(by rw [outAt_len]; omega) = (outAt s j).getD (j / 2) 0) := Lib.hid (by simp [List.getD, List.getElem?_eq_getElem (show j / 2 < (outAt s j).length by rw [outAt_len]; omega)])
          rw [HX.out] at hc
          clear HX HPN HAN
          have hx8 : ((outAt s j).getD (j / 2) 0).toNat < 256 := UInt8.toNat_lt _
          generalize ((outAt s j).getD (j / 2) 0).toNat = x at *
          have HE : Hid ((((x : Int) * 16 + v) % 256).toNat < 256 ∧ (((x : Int) * 16 + v) % 256) = ((((x : Int) * 16 + v) % 256).toNat : Int)) := Lib.hid ⟨by omega, by omega⟩
          obtain ⟨q, hq⟩ : ∃ q, q = j / 2 := ⟨_, rfl⟩
          have ejq : (j : Int) / 2 = (q : Int) := by omega
          have hq32 : q < 32 := by omega
          rw [← hq] at hc hf HO
          clear hq
          have HQ : Hid ((x : Int) * 16 % 256 + v = ((((x : Int) * 16 + v) % 256).toNat : Int)) := Lib.hid (by omega)
          go_wp2_with fail
          go_roundw
          case rel =>
            refine ⟨j + 1, by omega, by go_num, HAQ.out, J1.out.kept (heap_setCell_other _ _ _ _ (by simp)), ?_, JB.out.setCell (by simp) _⟩
            rw [HQ.out, HO.out]
            exact J2.out.set _ _ HE.out.1
          case measure => simp [intOf]; omega
      · have hjn : j = 64 := by omega
        subst hjn
        have HP : Hid (parseN s = (outAt s 64, 0)) := Lib.hid (by unfold parseN; rw [if_pos ⟨HL.out, HAD.out⟩])
        have ol := outAt_len s 64
        generalize outAt s 64 = o at *
        have c2 := J2.out.cells
        have c3 := J1.out.write (l := o) ol
        have HI := Lib.hid (J1.out.put (l := o) ol)
        have HW := Lib.hid (below_setRow JB.out (Nat.le_refl _) (bv o).toArray)
        have hol : (bv o).length = n32 := by rw [bv_len, ol]; rfl
        clear ol
        go_wp2_with fail
        rw [HP.out]
        exact bodyPost_ret (results_id rfl _ _ rfl rfl HI.out) rfl ⟨rfl, HW.out⟩
  · have HL := Lib.hid hl
    have hne : ((s.length : Int) != 64) = true := by rw [bne_iff_ne]; omega
    clear hl
    have c3 := I1.out.write (l := zeros) rfl
    rw [setRow_self _ _ _ _ _ I1.out.blk] at c3
    go_wp2_with fail
    have hp : parseN s = (zeros, 30) := by unfold parseN; rw [if_neg (fun h => HL.out h.1)]
    rw [hp]
    exact bodyPost_ret (results_id rfl _ _ rfl rfl I1.out) rfl ⟨rfl, B1.out⟩
end Go.Proofs.YteijekhmgedhoaaDoor
