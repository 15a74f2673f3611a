/- The walks of common and Short. -/
import Derived.Test.YteijekhmgedhoaaDoorShaT
import Derived.Test.YteijekhmgedhoaaDoorShaD
namespace Go.Proofs.YteijekhmgedhoaaDoor
open Go.RowKit
attribute [local simp high] id_size id_zero

theorem xor_zero {a b : Nat} (h : a ^^^ b = 0) : a = b := by
  apply Nat.eq_of_testBit_eq
  intro i
  have := congrArg (fun n => n.testBit i) h
  simp only [Nat.testBit_xor, Nat.zero_testBit] at this
  revert this
  cases a.testBit i <;> cases b.testBit i <;> simp
theorem xor_self' (a : Nat) : a ^^^ a = 0 := by
  apply Nat.eq_of_testBit_eq
  intro i
  rw [Nat.testBit_xor]; simp
theorem xor_div (a b : Nat) : (a ^^^ b) / 16 = (a / 16) ^^^ (b / 16) := by
  apply Nat.eq_of_testBit_eq
  intro i
  have e : (16 : Nat) = 2 ^ 4 := rfl
  rw [e, Nat.testBit_xor, Nat.testBit_div_two_pow, Nat.testBit_div_two_pow, Nat.testBit_div_two_pow, Nat.testBit_xor]
theorem xor_hi {a b : Nat} : 16 ≤ a ^^^ b ↔ a / 16 ≠ b / 16 := by
  have h := xor_div a b
  constructor
  · intro h1 h2
    rw [h2, xor_self'] at h
    omega
  · intro h1
    by_cases h2 : 16 ≤ a ^^^ b
    · exact h2
    · have h3 : (a ^^^ b) / 16 = 0 := by omega
      rw [h] at h3
      exact absurd (xor_zero h3) h1
theorem digit_inj_key : ∀ a, a < 16 → ∀ b, b < 16 → (digit a).toNat = (digit b).toNat → a = b := by decide
theorem hexL_hi (l : List UInt8) (k : Nat) (h : k < l.length) : (hexL l).getD (2 * k) 0 = digit ((l.getD k 0).toNat / 16) := by
  induction l generalizing k with
  | nil => simp at h
  | cons c t ih =>
    have e : hexL (c :: t) = digit (c.toNat / 16) :: digit (c.toNat % 16) :: hexL t := by unfold hexL; rw [List.flatMap_cons]; rfl
    rw [e]
    cases k with
    | zero => rfl
    | succ k =>
      rw [show 2 * (k + 1) = 2 * k + 1 + 1 by omega, List.getD_cons_succ, List.getD_cons_succ, List.getD_cons_succ]
      exact ih k (by simpa using h)
theorem hexL_lo (l : List UInt8) (k : Nat) (h : k < l.length) : (hexL l).getD (2 * k + 1) 0 = digit ((l.getD k 0).toNat % 16) := by
  induction l generalizing k with
  | nil => simp at h
  | cons c t ih =>
    have e : hexL (c :: t) = digit (c.toNat / 16) :: digit (c.toNat % 16) :: hexL t := by unfold hexL; rw [List.flatMap_cons]; rfl
    rw [e]
    cases k with
    | zero => rfl
    | succ k =>
      rw [show 2 * (k + 1) + 1 = 2 * k + 1 + 1 + 1 by omega, List.getD_cons_succ, List.getD_cons_succ, List.getD_cons_succ]
      exact ih k (by simpa using h)
theorem pfx_at_hi {l m : List UInt8} {k : Nat} (hl : l.length = 32) (hm : m.length = 32) (hk : k < 32) (h : 16 ≤ (l.getD k 0).toNat ^^^ (m.getD k 0).toNat) : pfx (hexL l) (hexL m) (64 - 2 * k) (2 * k) = 2 * k := by
  have h1 := xor_hi.1 h
  have a1 := (l.getD k 0).toNat_lt
  have a2 := (m.getD k 0).toNat_lt
  rw [show 64 - 2 * k = (62 - 2 * k) + 1 + 1 by omega, pfx, hexL_hi l k (by omega), hexL_hi m k (by omega), if_neg (fun e => h1 (digit_inj_key _ (by omega) _ (by omega) e))]
theorem pfx_at_lo {l m : List UInt8} {k : Nat} (hl : l.length = 32) (hm : m.length = 32) (hk : k < 32) (h : ¬ 16 ≤ (l.getD k 0).toNat ^^^ (m.getD k 0).toNat) (h0 : 0 < (l.getD k 0).toNat ^^^ (m.getD k 0).toNat) : pfx (hexL l) (hexL m) (64 - 2 * k) (2 * k) = 2 * k + 1 := by
  have h1 : (l.getD k 0).toNat / 16 = (m.getD k 0).toNat / 16 := by
    by_cases e : (l.getD k 0).toNat / 16 = (m.getD k 0).toNat / 16
    · exact e
    · exact absurd (xor_hi.2 e) h
  have h2 : (l.getD k 0).toNat ≠ (m.getD k 0).toNat := fun e => by rw [e, xor_self'] at h0; omega
  have a1 := (l.getD k 0).toNat_lt
  have a2 := (m.getD k 0).toNat_lt
  rw [show 64 - 2 * k = (62 - 2 * k) + 1 + 1 by omega, pfx, hexL_hi l k (by omega), hexL_hi m k (by omega), h1, if_pos rfl, pfx, hexL_lo l k (by omega), hexL_lo m k (by omega), if_neg (fun e => by have := digit_inj_key _ (by omega) _ (by omega) e; omega)]
theorem pfx_at_same {l m : List UInt8} {k : Nat} (hl : l.length = 32) (hm : m.length = 32) (hk : k < 32) (h0 : ¬ 0 < (l.getD k 0).toNat ^^^ (m.getD k 0).toNat) : pfx (hexL l) (hexL m) (64 - 2 * k) (2 * k) = pfx (hexL l) (hexL m) (64 - 2 * (k + 1)) (2 * (k + 1)) := by
  have h2 : (l.getD k 0).toNat = (m.getD k 0).toNat := xor_zero (by omega)
  rw [show 64 - 2 * k = (64 - 2 * (k + 1)) + 1 + 1 by omega, pfx, hexL_hi l k (by omega), hexL_hi m k (by omega), h2, if_pos rfl, pfx, hexL_lo l k (by omega), hexL_lo m k (by omega), h2, if_pos rfl]
  rfl
theorem pfx_full {s t : List UInt8} {f k : Nat} (h : pfx s t f k = k + f) : ∀ j, k ≤ j → j < k + f → (s.getD j 0).toNat = (t.getD j 0).toNat := by
  induction f generalizing k with
  | zero => intro j h1 h2; omega
  | succ f ih =>
    rw [pfx] at h
    by_cases e : (s.getD k 0).toNat = (t.getD k 0).toNat
    · intro j h1 h2
      by_cases hj : j = k
      · rw [hj]; exact e
      · rw [if_pos e] at h
        exact ih (k := k + 1) (by omega) j (by omega) (by omega)
    · rw [if_neg e] at h; omega
theorem pfx_same (s : List UInt8) (f k : Nat) : pfx s s f k = k + f := by
  induction f generalizing k with
  | zero => rfl
  | succ f ih => rw [pfx, if_pos rfl, ih]; omega
theorem pfx_ne {l m : List UInt8} (hl : l.length = 32) (hm : m.length = 32) (h : l ≠ m) : pfx (hexL l) (hexL m) 64 0 < 64 := by
  have hle := pfx_le (hexL l) (hexL m) 64 0
  by_cases e : pfx (hexL l) (hexL m) 64 0 = 64
  · exfalso
    apply h
    have hf := pfx_full (s := hexL l) (t := hexL m) (f := 64) (k := 0) (by omega)
    apply List.ext_getElem (by omega)
    intro j h1 h2
    have e1 := hf (2 * j) (by omega) (by omega)
    have e2 := hf (2 * j + 1) (by omega) (by omega)
    rw [hexL_hi l j h1, hexL_hi m j h2] at e1
    rw [hexL_lo l j h1, hexL_lo m j h2] at e2
    have a1 := (l.getD j 0).toNat_lt
    have a2 := (m.getD j 0).toNat_lt
    have d1 := digit_inj_key _ (by omega) _ (by omega) e1
    have d2 := digit_inj_key _ (by omega) _ (by omega) e2
    have g1 : l.getD j 0 = l[j] := by simp [List.getD, List.getElem?_eq_getElem h1]
    have g2 : m.getD j 0 = m[j] := by simp [List.getD, List.getElem?_eq_getElem h2]
    rw [← g1, ← g2]
    exact UInt8.toNat_inj.1 (by omega)
  · omega
theorem step_max {l m : List UInt8} (hl : l.length = 32) (hm : m.length = 32) (h : l ≠ m) (n : Nat) : stepN n (pfx (hexL l) (hexL m) 64 0) = max n (pfx (hexL l) (hexL m) 64 0 + 1) := by
  have := pfx_ne hl hm h
  unfold stepN
  split <;> omega
theorem step_same (l : List UInt8) (n : Nat) : stepN n (pfx (hexL l) (hexL l) 64 0) = n := by
  rw [pfx_same]; unfold stepN; rw [if_neg (by omega)]
theorem pfx_lt64 (s t : List UInt8) : pfx s t 64 0 ≤ 64 := by have := pfx_le s t 64 0; omega
set_option maxRecDepth 100000 in
set_option maxHeartbeats 2000000 in
theorem common_any (l m : List UInt8) (w : World) (hl : l.length = 32) (hm : m.length = 32) : Calls Tryd.prog 64 #[.agg (bv l).toArray, .agg (bv m).toArray] w fun e w' => e = .returned (.int .i64 ((pfx (hexL l) (hexL m) 64 0 : Nat) : Int)) ∧ Below w.heap.size w w' := by
  have HL := Lib.hid hl
  have HM := Lib.hid hm
  have i1 : IDAt (w.alloc (.cells (bv l).toArray 25)) w.heap.size l := ⟨hl, new_five w _ _⟩
  have i2 : IDAt ((w.alloc (.cells (bv l).toArray 25)).alloc (.cells (bv m).toArray 25)) (w.heap.size + 1) m := ⟨hm, by have := new_five (w.alloc (.cells (bv l).toArray 25)) (bv m).toArray 25; rwa [show (w.alloc (.cells (bv l).toArray 25)).heap.size = w.heap.size + 1 by simp] at this⟩
  have hb := ((Below.refl w.heap.size w).alloc (Nat.le_refl _) (.cells (bv l).toArray 25)).alloc (by simp) (.cells (bv m).toArray 25)
  have i1' := i1.kept (w' := (w.alloc (.cells (bv l).toArray 25)).alloc (.cells (bv m).toArray 25)) (Below.heap_alloc _ _ _ (by simp))
  have c1 := i1'.cells
  have I2 := Lib.hid i2
  have HB := Lib.hid hb
  clear i1 i2 i1' hb hl hm
  go_enter Tryd.func64, Tryd.ntmps64
  go_wp2_with fail
  clear c1
  generalize (w.alloc (.cells (bv l).toArray 25)).alloc (.cells (bv m).toArray 25) = w2 at *
  go_loopw [9] (fun i wr => ∃ k n : Nat, k ≤ 32 ∧ i = .int .i64 k ∧ pfx (hexL l) (hexL m) (64 - 2 * k) (2 * k) = pfx (hexL l) (hexL m) 64 0 ∧ wr = w2.drewN n) (fun i _ => 32 - (intOf i).toNat)
  case atStart => exact ⟨0, 0, by omega, rfl, rfl, rfl⟩
  case round =>
    obtain ⟨k, n, hk, rfl, hp, rfl⟩ := hrel
    have HP := Lib.hid hp
    clear hp
    by_cases hlt : k < 32
    · have hix := fun w => id_index w HL.out k hlt
      have hc := I2.out.cell k (by rw [HM.out]; exact hlt)
      have g2 : m[k]'(by rw [HM.out]; exact hlt) = m.getD k 0 := by simp [List.getD, List.getElem?_eq_getElem (show k < m.length by rw [HM.out]; exact hlt)]
      rw [g2] at hc
      have P1 := Lib.hid (pfx_at_hi HL.out HM.out hlt)
      have P2 := Lib.hid (pfx_at_lo HL.out HM.out hlt)
      have P3 := Lib.hid (pfx_at_same HL.out HM.out hlt)
      have hx8 : (l.getD k 0).toNat < 256 := UInt8.toNat_lt _
      have hy8 : (m.getD k 0).toNat < 256 := UInt8.toNat_lt _
      clear g2
      generalize (l.getD k 0).toNat = x at *
      generalize (m.getD k 0).toNat = y at *
      have hxr := u8_xor_nat x y hx8 hy8
      have hz8 : x ^^^ y < 256 := Nat.xor_lt_two_pow (n := 8) hx8 hy8
      generalize x ^^^ y = z at *
      by_cases h16 : 16 ≤ z
      · have HQ := Lib.hid ((P1.out h16).symm.trans HP.out)
        have hd : decide ((16 : Int) ≤ (z : Int)) = true := by simp; omega
        clear P1 P2 P3 h16
        go_wp2_with fail
        go_ret
        exact ⟨by rw [← HQ.out]; congr 2, HB.out.trans (below_drewN _ _ _)⟩
      · by_cases h0 : 0 < z
        · have HQ := Lib.hid ((P2.out h16 h0).symm.trans HP.out)
          have hd : decide ((16 : Int) ≤ (z : Int)) = false := by simp; omega
          have hd2 : decide ((0 : Int) < (z : Int)) = true := by simp; omega
          clear P1 P2 P3 h16
          go_wp2_with fail
          go_ret
          exact ⟨by rw [← HQ.out]; congr 2, HB.out.trans (below_drewN _ _ _)⟩
        · have HQ := Lib.hid ((P3.out h0).symm.trans HP.out)
          have hz0 : z = 0 := by omega
          subst hz0
          clear P1 P2 P3 h16 h0
          go_wp2_with fail
          go_roundw
          case rel => exact ⟨k + 1, n, by omega, by go_num, HQ.out, rfl⟩
          case measure => simp [intOf]; omega
    · have hk32 : k = 32 := by omega
      subst hk32
      have HQ : Hid (64 = pfx (hexL l) (hexL m) 64 0) := Lib.hid HP.out
      clear HP
      go_wp2_with fail
      go_ret
      exact ⟨by rw [← HQ.out]; rfl, HB.out.trans (below_drewN _ _ _)⟩
end Go.Proofs.YteijekhmgedhoaaDoor
