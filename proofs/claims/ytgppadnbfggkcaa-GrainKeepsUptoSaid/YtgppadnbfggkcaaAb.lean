/- Plain lemmas: what is written is read again, and the other way round; what is cut short is too short. -/
import Derived.Test.YtgppadnbfggkcaaV
namespace Go.Proofs.Ytgppadnbfggkcaa
open Go.RowKit

theorem u8_of (n : Nat) (h : n < 256) : (UInt8.ofNat n).toNat = n := by simp; omega
theorem headLoop_on (q : Nat) : ∀ (s n : Nat) (r : List UInt8), 0 < q → s ≤ 61 → s % 7 = 5 → q * 2 ^ s < 18446744073709551616 → headLoop s n (headL (q % 128) (q / 128) ++ r) = .ok (n + q * 2 ^ s, r) := by
  induction q using Nat.strongRecOn with
  | ind q ih =>
    intro s n r hq hs h7 hb
    have h61 : s = 61 → q ≤ 7 := by
      rintro rfl
      have : (2 : Nat) ^ 61 = 2305843009213693952 := rfl
      omega
    rw [headL]
    by_cases h0 : q / 128 = 0
    · rw [if_pos h0]
      have e : q % 128 = q := by omega
      have hno : ¬ (q = 0 ∨ (s = 61 ∧ 7 < q)) := fun h => h.elim (fun h => by omega) (fun h => by have := h61 h.1; omega)
      simp only [List.cons_append, List.nil_append, headLoop]
      rw [u8_of _ (by omega), e, if_neg hno, if_neg (by omega), e]
    · rw [if_neg h0]
      have hs61 : s ≠ 61 := fun h => by have := h61 h; omega
      have hno : ¬ (q % 128 + 128 = 0 ∨ (s = 61 ∧ 7 < q % 128 + 128)) := fun h => h.elim (fun h => by omega) (fun h => hs61 h.1)
      simp only [List.cons_append, headLoop]
      rw [u8_of _ (by omega), if_neg hno, if_pos (by omega)]
      have hp : (2 : Nat) ^ (s + 7) = 128 * 2 ^ s := by rw [Nat.pow_add, Nat.mul_comm]
      have hm : q / 128 * 2 ^ (s + 7) + q % 128 * 2 ^ s = q * 2 ^ s := by
        rw [hp, ← Nat.mul_assoc, ← Nat.add_mul]
        congr 1
        omega
      rw [ih (q / 128) (by omega) (s + 7) _ r (by omega) (by omega) (by omega) (by omega)]
      have e : (q % 128 + 128) % 128 = q % 128 := by omega
      rw [e]
      congr 2
      omega
theorem headD_on (k n : Nat) (r : List UInt8) (hk : k < 4) (hn : n < 18446744073709551616) : headD (headB k n ++ r) = .ok (k, n, r) := by
  unfold headB
  rw [headL]
  by_cases h0 : n / 32 = 0
  · rw [if_pos h0]
    simp only [List.cons_append, List.nil_append, headD]
    rw [u8_of _ (by omega), if_neg (by omega)]
    congr 3 <;> omega
  · rw [if_neg h0]
    simp only [List.cons_append, headD]
    rw [u8_of _ (by omega), if_pos (by omega)]
    have e : (n % 32 * 4 + k + 128) % 128 / 4 = n % 32 := by omega
    have e2 : (n % 32 * 4 + k + 128) % 4 = k := by omega
    have e3 : n % 32 + n / 32 * 2 ^ 5 = n := by omega
    rw [e, e2, headLoop_on (n / 32) 5 _ r (by omega) (by omega) rfl (by omega), e3]
theorem headLoop_cut : ∀ (l : List UInt8) (s n : Nat) {m : Nat} {r : List UInt8}, headLoop s n l = .ok (m, r) → ∀ j, j + r.length < l.length → headLoop s n (l.take j) = .error 20
  | [], s, n, m, r, h => by simp only [headLoop] at h; cases h
  | p :: l, s, n, m, r, h => by
    intro j hj
    cases j with
    | zero => simp only [List.take_zero, headLoop]
    | succ j =>
      simp only [headLoop] at h
      simp only [List.take_succ_cons, headLoop]
      split at h
      · cases h
      rename_i hne
      rw [if_neg hne]
      split at h
      · rename_i hge
        rw [if_pos hge]
        exact headLoop_cut l _ _ h j (by simp at hj; omega)
      · injection h with h
        injection h with _ h
        subst h
        simp at hj; omega
theorem headD_cut {l r : List UInt8} {k n : Nat} (h : headD l = .ok (k, n, r)) (j : Nat) (hj : j + r.length < l.length) : headD (l.take j) = .error 20 := by
  cases l with
  | nil => simp only [headD] at h; cases h
  | cons c l =>
    cases j with
    | zero => simp only [List.take_zero, headD]
    | succ j =>
      simp only [headD] at h
      simp only [List.take_succ_cons, headD]
      split at h
      · rename_i hge
        rw [if_pos hge]
        cases hl : headLoop 5 (c.toNat % 128 / 4) l with
        | error e => rw [hl] at h; cases h
        | ok y =>
          obtain ⟨m, r'⟩ := y
          rw [hl] at h
          injection h with h
          injection h with _ h
          injection h with _ h
          subst h
          rw [headLoop_cut l _ _ hl j (by simp at hj; omega)]
      · injection h with h
        injection h with _ h
        injection h with _ h
        subst h
        simp at hj; omega
theorem headLoop_lt : ∀ (l : List UInt8) (s n : Nat) {m : Nat} {r : List UInt8}, n < 2 ^ s → s ≤ 61 → s % 7 = 5 → headLoop s n l = .ok (m, r) → m < 18446744073709551616
  | [], s, n, m, r, _, _, _, h => by simp only [headLoop] at h; cases h
  | p :: l, s, n, m, r, hn, hs, h7, h => by
    have hp := p.toNat_lt
    simp only [headLoop] at h
    split at h
    · cases h
    rename_i hne
    have hb := next_bd n (p.toNat % 128) s hn (by omega)
    split at h
    · rename_i hge
      have h61 : s ≠ 61 := fun e => hne (Or.inr ⟨e, by omega⟩)
      exact headLoop_lt l _ _ hb (by omega) (by omega) h
    · injection h with h
      injection h with h _
      subst h
      by_cases h61 : s = 61
      · subst h61
        have : (2 : Nat) ^ 61 = 2305843009213693952 := rfl
        have : ¬ 7 < p.toNat := fun e => hne (Or.inr ⟨rfl, e⟩)
        omega
      · have := pow_bd (s := s) (by omega)
        omega
theorem headD_lt {l r : List UInt8} {k n : Nat} (h : headD l = .ok (k, n, r)) : n < 18446744073709551616 := by
  cases l with
  | nil => simp only [headD] at h; cases h
  | cons c l =>
    have hc := c.toNat_lt
    simp only [headD] at h
    split at h
    · cases hl : headLoop 5 (c.toNat % 128 / 4) l with
      | error e => rw [hl] at h; cases h
      | ok y =>
        obtain ⟨m, r'⟩ := y
        rw [hl] at h
        injection h with h
        injection h with _ h
        injection h with h _
        subst h
        exact headLoop_lt l _ _ (by omega) (by omega) rfl hl
    · injection h with h
      injection h with _ h
      injection h with h _
      subst h
      omega
/-- What reading does: it takes a beginning, whatever stands behind; a shorter one is too short; and it is what is written. -/
def Takes (g : List UInt8 → Except Int (Val × List UInt8)) (enc : List UInt8 → Val → Except Int (List UInt8)) : Prop :=
  ∀ (l : List UInt8) (x : Val) (r : List UInt8), g l = .ok (x, r) → ∃ t, l = t ++ r ∧ (∀ rest, g (t ++ rest) = .ok (x, rest)) ∧ (∀ j, j < t.length → g (t.take j) = .error 20) ∧ (∀ o, o.length + t.length ≤ 1048576 → enc o x = .ok (o ++ t))
theorem takes_list {g : List UInt8 → Except Int (Val × List UInt8)} {enc : List UInt8 → Val → Except Int (List UInt8)} (hg : Takes g enc) : ∀ (m : Nat) {l : List UInt8} {xs : List Val} {r : List UInt8}, listD g m l = .ok (xs, r) →
    ∃ t, l = t ++ r ∧ (∀ rest, listD g m (t ++ rest) = .ok (xs, rest)) ∧ (∀ j, j < t.length → listD g m (t.take j) = .error 20) ∧ (∀ o, o.length + t.length ≤ 1048576 → foldE enc xs o = .ok (o ++ t))
  | 0, l, xs, r, h => by
    simp only [listD] at h
    injection h with h; injection h with h1 h2
    subst h1 h2
    exact ⟨[], rfl, fun rest => rfl, fun j hj => by simp at hj, fun o _ => by simp [foldE]⟩
  | m + 1, l, xs, r, h => by
    simp only [listD] at h
    cases hl : g l with
    | error c => rw [hl] at h; cases h
    | ok y =>
      obtain ⟨x, r1⟩ := y
      rw [hl] at h
      simp only at h
      cases hm : listD g m r1 with
      | error c => rw [hm] at h; cases h
      | ok z =>
        obtain ⟨ys, r2⟩ := z
        rw [hm] at h
        injection h with h
        injection h with h1 h2
        subst h1 h2
        obtain ⟨t1, e1, f1, c1, w1⟩ := hg _ _ _ hl
        obtain ⟨t2, e2, f2, c2, w2⟩ := takes_list hg m hm
        refine ⟨t1 ++ t2, by rw [e1, e2, List.append_assoc], fun rest => ?_, fun j hj => ?_, fun o ho => ?_⟩
        · simp only [listD]
          rw [List.append_assoc, f1]
          simp only
          rw [f2]
        · simp only [listD]
          by_cases hj1 : j < t1.length
          · rw [List.take_append_of_le_length (by omega), c1 j hj1]
          · rw [List.take_append, List.take_of_length_le (by omega), f1]
            simp only
            rw [c2 _ (by rw [List.length_append] at hj; omega)]
        · rw [List.length_append] at ho
          simp only [foldE]
          rw [w1 o (by omega)]
          simp only
          rw [w2 _ (by rw [List.length_append]; omega), List.append_assoc]
end Go.Proofs.Ytgppadnbfggkcaa
