/- The laws' raw blobs in memory; which snapshots and blobs are small. -/
import Derived.Test.YtjlpdoppnhcjoaaDoorJnV
namespace Go.Proofs.YtjlpdoppnhcjoaaDoor
open Go.RowKit Go.Lib
attribute [local simp high] id_size n32_ne n34_ne file_size
def rawF (b : BlobN) (tv : Value) (k : Nat) : Value := if k < 32 then .int .u8 ((b.id k).toNat : Int) else if k = 32 then tv else .int .i64 b.bad
def rawRel (S : Nat → Prop) (w : World) (b : BlobN) (cs : List Value) : Prop := ∃ tv, cs = rowL n34 (rawF b tv) ∧ BytesC S w tv b.text
theorem raw_keeps : Keeps rawRel := fun _ _ _ _ _ _ ⟨tv, h1, h2⟩ hk => ⟨tv, h1, h2.kept hk⟩
abbrev RawsC := RowsC rawRel n34
theorem raw_one {b : BlobN} {tv : Value} (h : tv.oneCell' = true) (n : Nat) : OneC n (rawF b tv) := fun k _ => by
  unfold rawF
  split
  · rfl
  · split
    · exact h
    · rfl
theorem raw_size (w : World) : (sizeOf 51).run Tryd.prog w = .ok n34 w := by rw [Tryd.sizeOf51]; rfl
def noRaw : Nat → Value := rawF noBlob (.slice none 0 0)
theorem raw_zero (w : World) : (zeroValue 51).run Tryd.prog w = .ok (.agg (rowL n34 noRaw).toArray) w := by rw [Tryd.zeroValue51]; kernel_rfl
attribute [local simp high] raw_size raw_zero
def sumB (l : List BlobN) : Nat := (l.map fun b => b.text.length).sum
theorem sumB_take {l : List BlobN} {k : Nat} (h : k < l.length) : sumB (l.take (k + 1)) = sumB (l.take k) + (l.getD k noBlob).text.length := by
  unfold sumB
  rw [List.take_add_one, List.map_append, List.sum_append]
  simp [List.getD, h]
theorem sumB_le (l : List BlobN) (k : Nat) : sumB (l.take k) ≤ sumB l := by
  unfold sumB
  have h : l = l.take k ++ l.drop k := (List.take_append_drop k l).symm
  conv => rhs; rw [h, List.map_append, List.sum_append]
  omega
theorem sumB_mem {l : List BlobN} {b : BlobN} (h : b ∈ l) : b.text.length ≤ sumB l := by
  induction l with
  | nil => cases h
  | cons x r ih =>
    unfold sumB at *
    rw [List.map_cons, List.sum_cons]
    rcases List.mem_cons.1 h with rfl | h
    · omega
    · have := ih h; omega
def smallB (l : Nat → List FileN) (bs : List BlobN) : Bool := decide (sumB bs ≤ 600) && decide (totN l ≤ 90)
set_option maxRecDepth 100000 in
set_option maxHeartbeats 8000000 in
theorem small_any (S : Nat → Prop) (a : Nat → Option Addr) (c : Nat → Nat) (l : Nat → List FileN) (bv0 : Value) (bs : List BlobN) (w : World) (hS : ∀ k, S k → k < w.heap.size) (hb : RawsC S w bv0 bs) (hbl : bs.length ≤ 4194304) (hsum : sumB bs ≤ 4194304) (hl : ∀ i, i < 3 → (l i).length ≤ 4194304) :
    Calls Tryd.prog 13 #[.agg #[.slice (a 0) (l 0).length (c 0), .slice (a 1) (l 1).length (c 1), .slice (a 2) (l 2).length (c 2)], bv0] w fun e w' => e = .returned (.bool (smallB l bs)) ∧ Below w.heap.size w w' := by
  obtain ⟨ba, bc, rfl⟩ := RowsC.shape hb
  have i1 := new_five w #[.slice (a 0) (l 0).length (c 0), .slice (a 1) (l 1).length (c 1), .slice (a 2) (l 2).length (c 2)] 26
  have HB0 := Lib.hid ((Below.refl w.heap.size w).alloc (Nat.le_refl _) (.cells #[.slice (a 0) (l 0).length (c 0), .slice (a 1) (l 1).length (c 1), .slice (a 2) (l 2).length (c 2)] 26))
  have HI := Lib.hid i1
  have HV := Lib.hid (fun (W : World) (hW : Below w.heap.size w W) => RowsC.kept raw_keeps hb (S' := S) (w' := W) (fun k hk => ⟨hk, hW.block k (hS k hk)⟩))
  have HSM : Hid (smallB l bs = (decide (sumB bs ≤ 600) && decide ((l 0).length + (l 1).length + (l 2).length ≤ 90))) := Lib.hid rfl
  have l0 := hl 0 (by omega)
  have l1 := hl 1 (by omega)
  have l2 := hl 2 (by omega)
  have HSZ : Hid (w.heap.size < (w.alloc (.cells #[.slice (a 0) (l 0).length (c 0), .slice (a 1) (l 1).length (c 1), .slice (a 2) (l 2).length (c 2)] 26)).heap.size) := Lib.hid (by simp)
  clear i1 hb hl
  generalize (l 0).length = n0 at *
  generalize (l 1).length = n1 at *
  generalize (l 2).length = n2 at *
  generalize a 0 = a0 at *
  generalize a 1 = a1 at *
  generalize a 2 = a2 at *
  generalize c 0 = c0 at *
  generalize c 1 = c1 at *
  generalize c 2 = c2 at *
  go_enter Tryd.func13, Tryd.ntmps13
  go_upto_region 1 with fail
  generalize w.alloc (.cells #[.slice a0 n0 c0, .slice a1 n1 c1, .slice a2 n2 c2] 26) = w1 at *
  go_wp2_with fail
  go_loopw [5, 10] (fun s i wr => ∃ k : Nat, k ≤ bs.length ∧ i = .int .i64 (k : Int) ∧ s = .int .i64 ((sumB (bs.take k) : Nat) : Int) ∧ Hid (Below w1.heap.size w1 wr)) (fun _ i _ => bs.length - (intOf i).toNat)
  case atStart => exact ⟨0, Nat.zero_le _, rfl, rfl, Lib.hid (Below.refl _ _)⟩
  case round =>
    obtain ⟨k, hk, rfl, rfl, hB⟩ := hrel
    have HBW : Hid (Below w.heap.size w wr) := Lib.hid (HB0.out.trans (hB.out.mono HB0.out.size))
    by_cases hlt : k < bs.length
    · obtain ⟨g, o, rfl, _, _, _, hat⟩ := RowsC.at (HV.out wr HBW.out) (by omega)
      have he : bs[k]? = some (bs.getD k noBlob) := by simp [List.getD, hlt]
      obtain ⟨cs, hcl, ⟨tv, hcs, htv⟩, hck⟩ := hat k _ he
      have HSU := Lib.hid (sumB_take hlt)
      have HSL := Lib.hid (sumB_le bs (k + 1))
      obtain ⟨b, hbe⟩ : ∃ b, bs.getD k noBlob = b := ⟨_, rfl⟩
      rw [hbe] at hcs htv HSU
      clear hat he hbe
      obtain ⟨ta, tc, rfl⟩ := htv.shape
      have h1 := raw_one (b := b) (tv := .slice ta b.text.length tc) rfl n34
      have c1 := load_row wr g (o + k * n34) n34 (rawF b (.slice ta b.text.length tc)) (fun j hj => by
        rw [Nat.add_assoc]; exact hck j _ (by rw [hcs]; exact rowL_at _ hj))
      have i1 := RF.new wr 51 n34 noRaw
      have c2 := i1.write h1
      have HI2 := Lib.hid (i1.put (rawF b (.slice ta b.text.length tc)))
      have HW := Lib.hid (below_setRow ((Below.refl wr.heap.size wr).alloc (Nat.le_refl _) (.cells (rowL n34 noRaw).toArray 51)) (Nat.le_refl _) (rowL n34 (rawF b (.slice ta b.text.length tc))).toArray)
      have hol := rowL_len n34 (rawF b (.slice ta b.text.length tc))
      have hol2 := rowL_len n34 noRaw
      clear hck hcs hcl i1 h1 htv
      go_upto_region 5 with fail
      clear c1 c2 hol hol2
      generalize (wr.alloc (.cells (rowL n34 noRaw).toArray 51)).setRow wr.heap.size (rowL n34 (rawF b (.slice ta b.text.length tc))).toArray = w5 at *
      have c0 : w5.cell? ⟨wr.heap.size, 32, none⟩ = some (.slice ta b.text.length tc) := HI2.out.cell (k := 32) (by unfold n34; omega)
      have HB5 : Hid (Below w1.heap.size w1 w5) := Lib.hid (hB.out.trans (HW.out.mono hB.out.size))
      have hs1 := HSU.out
      have hs2 := HSL.out
      obtain ⟨s1, hs3⟩ : ∃ s, sumB (bs.take (k + 1)) = s := ⟨_, rfl⟩
      have HS3 := Lib.hid hs3
      rw [hs3] at hs1 hs2
      obtain ⟨s0, hs4⟩ : ∃ s, sumB (bs.take k) = s := ⟨_, rfl⟩
      rw [hs4] at hs1 ⊢
      generalize b.text.length = bt at *
      have hw1 : IntKind.i64.wrap ((s0 : Int) + (bt : Int)) = (s1 : Int) := by
        rw [show (s0 : Int) + (bt : Int) = (s1 : Int) by omega]; exact IntWalk.i64_in _ (by omega)
      clear HI2 HW hs3 hs4 HSU HSL
      go_wp2_with fail
      exact ⟨⟨k + 1, by omega, by go_num, by rw [HS3.out]; congr 1; omega, HB5⟩, by simp [intOf]; omega⟩
    · obtain rfl : k = bs.length := by omega
      rw [List.take_length]
      have hi := (hB.out.block w.heap.size HSZ.out).trans HI.out
      have b0 : wr.cell? ⟨w.heap.size, 0, none⟩ = some (.slice a0 n0 c0) := by rw [cell_of_row _ _ _ _ _ _ hi]; rfl
      have b1 : wr.cell? ⟨w.heap.size, 1, none⟩ = some (.slice a1 n1 c1) := by rw [cell_of_row _ _ _ _ _ _ hi]; rfl
      have b2 : wr.cell? ⟨w.heap.size, 2, none⟩ = some (.slice a2 n2 c2) := by rw [cell_of_row _ _ _ _ _ _ hi]; rfl
      clear hi
      generalize sumB bs = sm at *
      by_cases h6 : sm ≤ 600
      · have g6 : decide ((sm : Int) ≤ 600) = true := decide_eq_true (by omega)
        have HS2 : Hid (smallB l bs = decide (n0 + n1 + n2 ≤ 90)) := Lib.hid (by rw [HSM.out, decide_eq_true h6, Bool.true_and])
        go_wp2_with fail
        go_ret
        refine ⟨?_, HBW.out⟩
        rw [HS2.out]
        by_cases h9 : n0 + n1 + n2 ≤ 90
        · rw [decide_eq_true h9]; show Ending.returned (.bool (decide _)) = _; rw [decide_eq_true (by omega)]
        · rw [decide_eq_false h9]; show Ending.returned (.bool (decide _)) = _; rw [decide_eq_false (by omega)]
      · have g6 : decide ((sm : Int) ≤ 600) = false := decide_eq_false (by omega)
        have HS2 : Hid (smallB l bs = false) := Lib.hid (by rw [HSM.out, decide_eq_false h6, Bool.false_and])
        go_wp2_with fail
        go_ret
        exact ⟨by rw [HS2.out]; rfl, HBW.out⟩
end Go.Proofs.YtjlpdoppnhcjoaaDoor
