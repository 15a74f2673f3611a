/- The reference's Parse as a plain function, and what it reads. -/
import Derived.Test.YtgppadnbfggkcaaDoorV
namespace Go.Proofs.YtgppadnbfggkcaaDoor
open Go.RowKit

def digScan : List UInt8 → Nat → Option Nat
  | [], a => some a
  | c :: r, a => if c.toNat < 48 ∨ 57 < c.toNat then none else digScan r (a * 10 + (c.toNat - 48))
def refDig (t : List UInt8) (most : Nat) : Option Nat :=
  if t = [] ∨ most < t.length ∨ (1 < t.length ∧ t.head? = some 48) then none else digScan t 0
theorem scan_append : ∀ (l r : List UInt8) (a : Nat), digScan (l ++ r) a = (digScan l a).bind (digScan r)
  | [], r, a => rfl
  | c :: l, r, a => by
    simp only [List.cons_append, digScan]
    split
    · rfl
    · exact scan_append l r _
theorem scan_lt : ∀ (l : List UInt8) (a n k : Nat), a < 10 ^ k → digScan l a = some n → n < 10 ^ (k + l.length)
  | [], a, n, k, h, e => by simp only [digScan] at e; injection e with e; subst e; simpa using h
  | c :: l, a, n, k, h, e => by
    simp only [digScan] at e
    split at e
    · cases e
    · rename_i hc
      have h1 : a * 10 + (c.toNat - 48) < 10 ^ (k + 1) := by rw [Nat.pow_succ]; omega
      have := scan_lt l _ n (k + 1) h1 e
      rw [List.length_cons, show k + (l.length + 1) = k + 1 + l.length by omega]; exact this
theorem scan_digits : ∀ u : Nat, digScan (Lib.decDigits u) 0 = some u := by
  intro u
  induction u using Nat.strongRecOn with
  | ind u ih =>
    by_cases h : u < 10
    · rw [Lib.decDigits_one h]
      have e : (UInt8.ofNat (48 + u)).toNat = 48 + u := by simp; omega
      simp only [digScan, e]
      rw [if_neg (by omega)]; congr 1; omega
    · rw [Lib.decDigits, dif_neg h, scan_append, ih (u / 10) (by omega)]
      have e : (UInt8.ofNat (48 + u % 10)).toNat = 48 + u % 10 := by simp; omega
      simp only [Option.bind, digScan, e]
      rw [if_neg (by omega)]; congr 1; omega
theorem digits_head {n : Nat} (h : n ≠ 0) : (Lib.decDigits n).head? ≠ some 48 := by
  induction n using Nat.strongRecOn with
  | ind u ih =>
    by_cases h9 : u < 10
    · rw [Lib.decDigits_one h9]
      intro e
      have e2 : UInt8.ofNat (48 + u) = 48 := by injection e
      have : (UInt8.ofNat (48 + u)).toNat = 48 := by rw [e2]; rfl
      simp at this; omega
    · rw [Lib.decDigits, dif_neg h9]
      have := ih (u / 10) (by omega) (by omega)
      obtain ⟨c, r, e, _⟩ := digits_cons (u / 10)
      rw [e] at this ⊢
      simpa using this
theorem scan_back : ∀ (k : Nat) (t : List UInt8) (n : Nat), t.length = k + 1 → (1 < t.length → t.head? ≠ some 48) → digScan t 0 = some n → t = Lib.decDigits n := by
  intro k
  induction k with
  | zero =>
    intro t n hl _ h
    match t, hl with
    | [c], _ =>
      simp only [digScan] at h
      split at h
      · cases h
      · rename_i hc
        injection h with h
        rw [Lib.decDigits_one (by omega)]
        congr 1
        apply UInt8.toNat.inj
        simp; omega
  | succ k ih =>
    intro t n hl hh h
    obtain ⟨l, c, rfl⟩ : ∃ l c, t = l ++ [c] := ⟨t.dropLast, t.getLast (by intro e; rw [e] at hl; simp at hl), (List.dropLast_concat_getLast _).symm⟩
    have hll : l.length = k + 1 := by simp at hl; omega
    rw [scan_append] at h
    have hh2 : l.head? ≠ some 48 := by
      have := hh (by simp; omega)
      match l, hll with
      | x :: l, _ => simpa using this
    cases hs : digScan l 0 with
    | none => rw [hs] at h; cases h
    | some m =>
      rw [hs] at h
      have hd := ih l m hll (fun _ => hh2) hs
      have hm : m ≠ 0 := by
        rintro rfl
        rw [hd] at hh2
        exact hh2 (by rw [Lib.decDigits_one (by omega)]; rfl)
      simp only [Option.bind, digScan] at h
      split at h
      · cases h
      · rename_i hc
        injection h with h
        rw [Lib.decDigits, dif_neg (by omega), show n / 10 = m by omega, ← hd]
        congr 2
        apply UInt8.toNat.inj
        simp; omega
theorem dig_back {t : List UInt8} {most n : Nat} (h : refDig t most = some n) : t = Lib.decDigits n ∧ n < 10 ^ most ∧ t.length ≤ most := by
  unfold refDig at h
  split at h
  · cases h
  · rename_i hc
    have h1 : t ≠ [] := fun e => hc (Or.inl e)
    have h2 : ¬ most < t.length := fun e => hc (Or.inr (Or.inl e))
    have h3 : 1 < t.length → t.head? ≠ some 48 := fun e e2 => hc (Or.inr (Or.inr ⟨e, e2⟩))
    have hl : t.length ≠ 0 := by simpa using h1
    refine ⟨scan_back (t.length - 1) t n (by omega) h3 h, ?_, by omega⟩
    have := scan_lt t 0 n 0 (by simp) h
    refine Nat.lt_of_lt_of_le this (Nat.pow_le_pow_right (by omega) (by omega))
theorem dig_there {n most : Nat} (h : (Lib.decDigits n).length ≤ most) : refDig (Lib.decDigits n) most = some n := by
  unfold refDig
  rw [if_neg, scan_digits]
  rintro (e | e | ⟨e1, e2⟩)
  · obtain ⟨c, r, e2, _⟩ := digits_cons n
    rw [e] at e2; cases e2
  · omega
  · by_cases hn : n = 0
    · subst hn; simp [Lib.decDigits_one] at e1
    · exact digits_head hn e2

def shiftB : Nat → Nat → Nat × Nat
  | m, 0 => (m, 0)
  | m, e + 1 => if m < 4503599627370496 then shiftB (2 * m) e else (m, e + 1)
def refBits (m : Nat) (p : Int) : Option Nat :=
  if m % 2 = 0 ∨ 9007199254740992 ≤ m ∨ p < -1074 ∨ 1023 < p then none
  else if (shiftB m (p + 1074).toNat).1 < 4503599627370496 then some (shiftB m (p + 1074).toNat).1
  else if 2046 < (shiftB m (p + 1074).toNat).2 + 1 then none
  else some ((shiftB m (p + 1074).toNat).1 - 4503599627370496 + ((shiftB m (p + 1074).toNat).2 + 1) * 4503599627370496)
theorem shift_there : ∀ (t o k : Nat), o * 2 ^ t < 9007199254740992 → (k = 0 ∨ 4503599627370496 ≤ o * 2 ^ t) → shiftB o (k + t) = (o * 2 ^ t, k)
  | 0, o, k, h, h2 => by
    rw [Nat.pow_zero, Nat.mul_one] at h h2 ⊢
    cases k with
    | zero => rfl
    | succ k =>
      simp only [shiftB]
      rw [if_neg (by omega)]
  | t + 1, o, k, h, h2 => by
    have e : o * 2 ^ (t + 1) = 2 * o * 2 ^ t := by rw [Nat.pow_succ, Nat.mul_comm (2 ^ t) 2, ← Nat.mul_assoc, Nat.mul_comm o 2]
    rw [e] at h h2 ⊢
    have hp := Nat.le_mul_of_pos_right (2 * o) (Nat.two_pow_pos t)
    have : shiftB o (k + (t + 1)) = if o < 4503599627370496 then shiftB (2 * o) (k + t) else (o, k + t + 1) := rfl
    rw [this, if_pos (by omega)]
    exact shift_there t (2 * o) k h h2
theorem shift_back : ∀ (e m : Nat), m < 9007199254740992 → ∃ t k, e = k + t ∧ shiftB m e = (m * 2 ^ t, k) ∧ m * 2 ^ t < 9007199254740992 ∧ (k = 0 ∨ 4503599627370496 ≤ m * 2 ^ t)
  | 0, m, h => ⟨0, 0, rfl, by simp [shiftB], by simpa using h, Or.inl rfl⟩
  | e + 1, m, h => by
    by_cases hm : m < 4503599627370496
    · obtain ⟨t, k, h1, h2, h3, h4⟩ := shift_back e (2 * m) (by omega)
      have e2 : m * 2 ^ (t + 1) = 2 * m * 2 ^ t := by rw [Nat.pow_succ, Nat.mul_comm (2 ^ t) 2, ← Nat.mul_assoc, Nat.mul_comm m 2]
      refine ⟨t + 1, k, by omega, ?_, ?_, ?_⟩
      · simp only [shiftB]; rw [if_pos hm, h2, e2]
      · rw [e2]; exact h3
      · rw [e2]; exact h4
    · refine ⟨0, e + 1, rfl, ?_, by simpa using h, Or.inr (by simp; omega)⟩
      simp only [shiftB]; rw [if_neg hm]; simp
theorem odd_part : ∀ (j k a b : Nat), 2 ^ j * (2 * a + 1) = 2 ^ k * (2 * b + 1) → j = k
  | 0, 0, _, _, _ => rfl
  | 0, k + 1, a, b, h => by
    rw [Nat.pow_succ, Nat.pow_zero, Nat.mul_right_comm] at h; omega
  | j + 1, 0, a, b, h => by
    rw [Nat.pow_succ, Nat.pow_zero, Nat.mul_right_comm] at h; omega
  | j + 1, k + 1, a, b, h => by
    have e1 : 2 ^ (j + 1) * (2 * a + 1) = 2 * (2 ^ j * (2 * a + 1)) := by rw [Nat.pow_succ, Nat.mul_comm (2 ^ j) 2, Nat.mul_assoc]
    have e2 : 2 ^ (k + 1) * (2 * b + 1) = 2 * (2 ^ k * (2 * b + 1)) := by rw [Nat.pow_succ, Nat.mul_comm (2 ^ k) 2, Nat.mul_assoc]
    rw [e1, e2] at h
    have := odd_part j k a b (by omega)
    omega
theorem ctz_odd (m t : Nat) (hm : m % 2 = 1) (h : m * 2 ^ t < 18446744073709551616) : Lib.ctz 64 (m * 2 ^ t) = t := by
  have hp := Nat.le_mul_of_pos_right m (Nat.two_pow_pos t)
  obtain ⟨q, hq, hk⟩ := Lib.ctzFrom_spec 64 (m * 2 ^ t) (by omega) (by omega)
  have e : Lib.ctz 64 (m * 2 ^ t) = Lib.ctzFrom 64 (m * 2 ^ t) := by unfold Lib.ctz; rw [if_neg (by omega)]
  rw [e]
  generalize Lib.ctzFrom 64 (m * 2 ^ t) = j at *
  have e2 : m = 2 * (m / 2) + 1 := by omega
  refine odd_part j t q (m / 2) ?_
  rw [← hq, ← e2, Nat.mul_comm]
theorem oddB_odd {b : Nat} (h0 : 0 < b) : oddB b % 2 = 1 := by
  obtain ⟨f0, _, fb⟩ := log_frac b h0
  obtain ⟨m, hm, hk⟩ := Lib.ctzFrom_spec 64 (fracB b) (by omega) (by omega)
  have e : Lib.ctz 64 (fracB b) = Lib.ctzFrom 64 (fracB b) := by unfold Lib.ctz; rw [if_neg f0]
  have h : oddB b = 2 * m + 1 := by
    unfold oddB; rw [e]
    generalize Lib.ctzFrom 64 (fracB b) = k at *
    rw [hm, Nat.mul_div_cancel_left _ (Nat.two_pow_pos k)]
  omega
theorem bits_there (b : Nat) (h0 : 0 < b) (h1 : b < 9218868437227405312) : refBits (oddB b) (powB b) = some b := by
  obtain ⟨f0, fl, fb⟩ := log_frac b h0
  obtain ⟨ho, o0⟩ := odd_frac b h0
  have hpw : powB b = -1074 + (kB b : Int) + (Lib.ctz 64 (fracB b) : Int) := by unfold powB; rw [place_k]
  have hfk := frac_k b
  have hbd := powB_bd h0 h1
  have hodd := oddB_odd h0
  have hk0 : (b < 4503599627370496 → kB b = 0) ∧ (4503599627370496 ≤ b → kB b = b / 4503599627370496 - 1 ∧ 4503599627370496 ≤ fracB b) := by
    unfold kB fracB; constructor <;> intro h
    · rw [if_pos h]
    · rw [if_neg (by omega), if_neg (by omega)]; exact ⟨rfl, by omega⟩
  generalize Lib.ctz 64 (fracB b) = t at *
  generalize hf : fracB b = f at *
  generalize oddB b = o at *
  have ho2 : o < 9007199254740992 := by
    have := Nat.le_mul_of_pos_right o (Nat.two_pow_pos t); omega
  have ht : t ≤ 52 := by
    have h1 : 2 ^ t < 2 ^ 53 := by
      have := Nat.le_mul_of_pos_left (2 ^ t) o0
      omega
    have := (Nat.pow_lt_pow_iff_right (by omega : 1 < 2)).1 h1
    omega
  have hs := shift_there t o (kB b) (by omega) (by
    by_cases hb : b < 4503599627370496
    · exact Or.inl (hk0.1 hb)
    · rw [← ho]; exact Or.inr (hk0.2 (by omega)).2)
  unfold refBits
  have ep : (powB b + 1074).toNat = kB b + t := by omega
  rw [ep, hs, if_neg (by omega), ← ho]
  by_cases hb : b < 4503599627370496
  · have := hk0.1 hb
    rw [if_pos (by omega)]; congr 1; omega
  · have := hk0.2 (by omega)
    rw [if_neg (by omega), if_neg (by show ¬ 2046 < kB b + 1; omega)]; exact congrArg some (by show f - 4503599627370496 + (kB b + 1) * 4503599627370496 = b; omega)
theorem bits_back {m b : Nat} {p : Int} (h : refBits m p = some b) : 0 < b ∧ b < 9218868437227405312 ∧ oddB b = m ∧ powB b = p := by
  unfold refBits at h
  split at h
  · cases h
  rename_i hc
  have c1 : m % 2 = 1 := by omega
  have c2 : m < 9007199254740992 := by omega
  obtain ⟨t, k, h1, h2, h3, h4⟩ := shift_back (p + 1074).toNat m c2
  rw [h2] at h
  have ct := ctz_odd m t c1 (by omega)
  have hp := Nat.le_mul_of_pos_right m (Nat.two_pow_pos t)
  have hdiv : m * 2 ^ t / 2 ^ t = m := Nat.mul_div_cancel _ (Nat.two_pow_pos t)
  simp only at h
  split at h
  · rename_i hlt
    injection h with h
    have ef : fracB b = m * 2 ^ t := by unfold fracB; rw [if_pos (by omega), ← h]
    have ek : placeB b = -1074 := by unfold placeB; rw [if_pos (by omega)]
    refine ⟨by omega, by omega, ?_, ?_⟩
    · unfold oddB; rw [ef, ct, hdiv]
    · unfold powB; rw [ef, ct, ek]; omega
  · rename_i hge
    split at h
    · cases h
    · rename_i hk
      injection h with h
      generalize m * 2 ^ t = M at *
      have hb1 : b / 4503599627370496 = k + 1 := by omega
      have hb2 : b % 4503599627370496 = M - 4503599627370496 := by omega
      have ef : fracB b = M := by unfold fracB; rw [if_neg (by omega), hb2]; omega
      have ek : placeB b = -1074 + (k : Int) := by unfold placeB; rw [if_neg (by omega), hb1]; simp
      refine ⟨by omega, by omega, ?_, ?_⟩
      · unfold oddB; rw [ef, ct, hdiv]
      · unfold powB; rw [ef, ct, ek]; omega
end Go.Proofs.YtgppadnbfggkcaaDoor
