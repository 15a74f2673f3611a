/- The walk of the reader's float, and of bytes.Clone. -/
import Derived.Test.YtgppadnbfggkcaaN
namespace Go.Proofs.Ytgppadnbfggkcaa
open Go.RowKit

def beN (l : List UInt8) : Nat := l.foldl (fun a c => a * 256 + c.toNat) 0
theorem beN_snoc (l : List UInt8) (c : UInt8) : beN (l ++ [c]) = beN l * 256 + c.toNat := by unfold beN; rw [List.foldl_append]; rfl
theorem beN_from : ∀ (l : List UInt8) (a k : Nat), a < 256 ^ k → l.foldl (fun a c => a * 256 + c.toNat) a < 256 ^ (k + l.length)
  | [], a, k, h => by simpa using h
  | c :: l, a, k, h => by
    have hc := c.toNat_lt
    have h1 : a * 256 + c.toNat < 256 ^ (k + 1) := by rw [Nat.pow_succ]; omega
    have := beN_from l _ (k + 1) h1
    rw [List.foldl_cons, List.length_cons, show k + (l.length + 1) = k + 1 + l.length by omega]; exact this
theorem beN_lt (k : Nat) (l : List UInt8) (hl : l.length ≤ k) : beN l < 256 ^ k := by
  have := beN_from l 0 0 (by simp)
  exact Nat.lt_of_lt_of_le this (Nat.pow_le_pow_right (by omega) (by omega))
theorem or_byte (x c : Nat) (hx : x < 72057594037927936) (hc : c < 256) : bits .or .u64 ((x : Int) * 256) (c : Int) = (((x * 256 + c : Nat)) : Int) := by
  have e : (x : Int) * 256 = ((x * 256 : Nat) : Int) := by omega
  rw [e, bits_or_u64_nat (x * 256) c (by omega) (by omega)]
  congr 1
  have := Nat.two_pow_add_eq_or_of_lt (i := 8) hc x
  rw [show x * 256 = 2 ^ 8 * x by omega, ← this]
def floatD (m : Nat) (l : List UInt8) : Except Int (Nat × List UInt8) :=
  if l.length < 8 then .error 20
  else if m ≠ 0 ∨ canonB (beN (l.take 8)) ≠ beN (l.take 8) then .error 22
  else .ok (beN (l.take 8), l.drop 8)
def FloatGives (S : Nat → Prop) (rb : Nat) (w : World) (r : Except Int (Nat × List UInt8)) (e : Ending) (w' : World) : Prop :=
  match r with
  | .ok (f, l) => e = .returned (.float .f64 f) ∧ f < 18446744073709551616 ∧ RestAt S rb w' l ∧ w.grownBy w' (some rb)
  | .error c => RPanics rb w c e w'
set_option maxRecDepth 100000 in
set_option maxHeartbeats 1000000 in
theorem float_short (S : Nat → Prop) (rb m : Nat) (l : List UInt8) (w : World) (hl : l.length < 8) (hR : RestAt S rb w l) :
    Calls Try.prog 41 #[.pointer (some ⟨rb, 0, none⟩), .int .u64 m] w (RPanics rb w 20) := by
  have HT := Lib.hid (take_any S rb 8 l w (by omega) hR)
  have HL := Lib.hid hl
  clear hR hl
  go_enter Try.func41, Try.ntmps41
  go_wp2_with fail
  refine HT.out.mono ?_
  rintro e w1 h
  rw [if_neg (by have := HL.out; omega)] at h
  obtain ⟨rfl, rfl⟩ := h
  go_wp2_with fail
  exact ⟨rfl, rfl, kb_refl _ _⟩
set_option maxRecDepth 100000 in
set_option maxHeartbeats 2000000 in
theorem float_long (S : Nat → Prop) (rb m : Nat) (l : List UInt8) (w : World) (hl : 8 ≤ l.length) (hm : m < 18446744073709551616) (hR : RestAt S rb w l) :
    Calls Try.prog 41 #[.pointer (some ⟨rb, 0, none⟩), .int .u64 m] w (FloatGives S rb w (floatD m l)) := by
  have HT := Lib.hid (take_any S rb 8 l w (by omega) hR)
  have HM := Lib.hid hm
  have ht8 : (l.take 8).length = 8 := by rw [List.length_take]; omega
  have HD : Hid (floatD m l = if m ≠ 0 ∨ canonB (beN (l.take 8)) ≠ beN (l.take 8) then .error 22 else .ok (beN (l.take 8), l.drop 8)) := Lib.hid (by unfold floatD; rw [if_neg (by omega)])
  have HL := Lib.hid hl
  generalize floatD m l = x at *
  generalize l.take 8 = t at *
  generalize l.drop 8 = rest at *
  clear hR hm hl
  go_enter Try.func41, Try.ntmps41
  go_wp2_with fail
  refine HT.out.mono ?_
  rintro e w1 h
  rw [if_pos HL.out] at h
  obtain ⟨out, rfl, hb, hr, hk⟩ := h
  have HR := Lib.hid hr
  have HK := Lib.hid hk
  rcases hb with ⟨_, h0⟩ | ⟨a, cap, rfl, hcap, _, hSa, hcells⟩
  · rw [h0] at ht8; simp at ht8
  have HC := Lib.hid hcells
  clear hr hk HT hcells hSa
  rw [ht8] at hcap ⊢
  go_wp2_with fail
  go_loopw [5, 12] (fun b i wr => ∃ k : Nat, k ≤ 8 ∧ i = .int .i64 k ∧ b = .int .u64 (beN (t.take k)) ∧ wr = w1) (fun _ i _ => 8 - (intOf i).toNat)
  case atStart => exact ⟨0, by omega, rfl, rfl, rfl⟩
  case round =>
    obtain ⟨k, hk, rfl, rfl, rfl⟩ := hrel
    by_cases h8 : k < 8
    · have hkt : t[k]? = some (t[k]'(by omega)) := List.getElem?_eq_getElem (by omega)
      have hcell := HC.out k (.int .u8 (t[k]'(by omega)).toNat) (by unfold bv; rw [List.getElem?_map, hkt]; rfl)
      have hc256 := (t[k]'(by omega)).toNat_lt
      have HB := Lib.hid (beN_snoc (t.take k) (t[k]'(by omega)))
      have HTK : Hid (t.take (k + 1) = t.take k ++ [t[k]'(by omega)]) := Lib.hid (List.take_succ_eq_append_getElem (by omega))
      have hbl : beN (t.take k) < 72057594037927936 := by
        have := beN_lt 7 (t.take k) (by rw [List.length_take]; omega)
        simpa using this
      generalize (t[k]'(by omega)).toNat = c at *
      generalize hbx : beN (t.take k) = bx at *
      have hor := or_byte bx c hbl (by omega)
      go_wp2_with fail
      exact ⟨⟨k + 1, by omega, by go_num, congrArg (Value.int .u64) (by rw [HTK.out, HB.out]; push_cast; rfl), trivial⟩, by simp [intOf]; omega⟩
    · have hk8 : k = 8 := by omega
      subst hk8
      have htt : t.take 8 = t := List.take_of_length_le (by omega)
      rw [htt]
      clear htt
      have hbl : beN t < 18446744073709551616 := by
        have := beN_lt 8 t (by omega)
        simpa using this
      have HBL := Lib.hid hbl
      generalize beN t = bx at *
      have h36 := fb36 bx
      have h19 := fb19
      have HCN := Lib.hid (canon_any bx)
      by_cases hm0 : m = 0
      · subst hm0
        by_cases hcb : canonB bx = bx
        · have hx := HD.out
          rw [if_neg (by intro h; rcases h with h | h; exact h rfl; exact h hcb)] at hx
          rw [hcb] at HCN
          clear HD hcb
          subst hx
          go_wp2_with fail
          refine (HCN.out _).mono ?_
          rintro e w' ⟨rfl, rfl⟩
          go_wp2_with fail
          go_ret
          exact ⟨rfl, HBL.out, HR.out, HK.out⟩
        · have hx := HD.out
          rw [if_pos (Or.inr hcb)] at hx
          have hne : ((canonB bx : Int) == (bx : Int)) = false := by rw [beq_eq_false_iff_ne]; omega
          generalize canonB bx = cb at *
          clear HD hcb
          subst hx
          go_wp2_with fail
          refine (HCN.out _).mono ?_
          rintro e w' ⟨rfl, rfl⟩
          go_wp2_with fail
          exact ⟨rfl, rfl, HK.out⟩
      · have hm1 : ((m : Int) == 0) = false := by rw [beq_eq_false_iff_ne]; omega
        have hx := HD.out
        rw [if_pos (Or.inl hm0)] at hx
        generalize canonB bx = cb at *
        clear HD
        subst hx
        go_wp2_with fail
        refine (HCN.out _).mono ?_
        rintro e w' ⟨rfl, rfl⟩
        go_wp2_with fail
        exact ⟨rfl, rfl, HK.out⟩
theorem float_any (S : Nat → Prop) (rb m : Nat) (l : List UInt8) (w : World) (hm : m < 18446744073709551616) (hR : RestAt S rb w l) :
    Calls Try.prog 41 #[.pointer (some ⟨rb, 0, none⟩), .int .u64 m] w (FloatGives S rb w (floatD m l)) := by
  by_cases hl : l.length < 8
  · have e : floatD m l = .error 20 := by unfold floatD; rw [if_pos hl]
    rw [e]; exact float_short S rb m l w hl hR
  · exact float_long S rb m l w (by omega) hm hR
end Go.Proofs.Ytgppadnbfggkcaa
