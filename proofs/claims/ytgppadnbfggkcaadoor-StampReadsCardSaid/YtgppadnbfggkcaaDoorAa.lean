/- The reference's Parse as a plain function is the program's. -/
import Derived.Test.YtgppadnbfggkcaaDoorZ
namespace Go.Proofs.YtgppadnbfggkcaaDoor
open Go.RowKit

theorem dlen_le : ∀ (k n : Nat), n < 10 ^ (k + 1) → (Lib.decDigits n).length ≤ k + 1
  | 0, n, h => by rw [Lib.decDigits_one (by simpa using h)]; simp
  | k + 1, n, h => by
    rw [Lib.decDigits_length]
    by_cases h9 : n < 10
    · rw [Lib.nDigits_small h9]; omega
    · rw [Lib.nDigits_big h9, ← Lib.decDigits_length]
      have : n / 10 < 10 ^ (k + 1) := by rw [Nat.pow_succ] at h; omega
      have := dlen_le k (n / 10) this
      omega
/-- The two parts of a text about its first letter 112. -/
def cutP : List UInt8 → Option (List UInt8 × List UInt8)
  | [] => none
  | c :: r => if c = 112 then some ([], r) else (cutP r).map fun x => (c :: x.1, x.2)
theorem cutP_none : ∀ {t : List UInt8}, cutP t = none → ∀ c ∈ t, c ≠ 112
  | [], _, c, hc => by cases hc
  | x :: r, h, c, hc => by
    simp only [cutP] at h
    split at h
    · cases h
    · rename_i hx
      rcases List.mem_cons.1 hc with rfl | hm
      · exact hx
      · exact cutP_none (by simpa using h) c hm
theorem cutP_some : ∀ {t l q : List UInt8}, cutP t = some (l, q) → t = l ++ 112 :: q ∧ ∀ c ∈ l, c ≠ 112
  | [], l, q, h => by cases h
  | x :: r, l, q, h => by
    simp only [cutP] at h
    split at h
    · rename_i hx
      injection h with h
      injection h with h1 h2
      subst h1 h2 hx
      exact ⟨rfl, by simp⟩
    · rename_i hx
      cases hr : cutP r with
      | none => rw [hr] at h; cases h
      | some y =>
        obtain ⟨l2, q2⟩ := y
        rw [hr] at h
        simp only [Option.map_some] at h
        injection h with h
        injection h with h1 h2
        subst h1 h2
        obtain ⟨h3, h4⟩ := cutP_some hr
        refine ⟨by rw [h3]; rfl, ?_⟩
        intro c hc
        rcases List.mem_cons.1 hc with rfl | hm
        · exact hx
        · exact h4 c hm
theorem cutP_there : ∀ (l q : List UInt8), (∀ c ∈ l, c ≠ 112) → cutP (l ++ 112 :: q) = some (l, q)
  | [], q, _ => by simp [cutP]
  | x :: l, q, h => by
    have hx : x ≠ 112 := h x (by simp)
    simp only [List.cons_append, cutP]
    rw [if_neg hx, cutP_there l q (fun c hc => h c (by simp [hc]))]; rfl
def powN (q : List UInt8) : Option Int :=
  if q.head? = some 45 then (refDig q.tail 4).bind fun p => if p = 0 then none else some (-(p : Int)) else (refDig q 4).map Int.ofNat
def refMid (l q : List UInt8) : Option Nat := (refDig l 16).bind fun m => (powN q).bind fun p => refBits m p
def refMag (t : List UInt8) : Option Nat :=
  if t = [105, 110, 102] then some 9218868437227405312 else if t = [48] then some 0 else (cutP t).bind fun x => refMid x.1 x.2
def refP (s : List UInt8) : Option Nat :=
  if s = [110, 97, 110] then some 9221120237041090560
  else if s.head? = some 45 then (refMag s.tail).map fun r => 9223372036854775808 + r else refMag s
theorem powN_there {p : Int} (h : -1100 ≤ p ∧ p ≤ 1100) : powN (Lib.itoa p) = some p := by
  unfold powN Lib.itoa
  by_cases hp : p < 0
  · rw [if_pos hp, if_pos List.head?_cons]
    have hd := dig_there (n := p.natAbs) (most := 4) (dlen_le 3 _ (by omega))
    simp only [List.tail_cons]
    rw [hd]
    simp only [Option.bind_some]
    rw [if_neg (by omega)]; exact congrArg some (by omega)
  · rw [if_neg hp]
    obtain ⟨c, r, e, h1, h2⟩ := digits_cons p.toNat
    have hd := dig_there (n := p.toNat) (most := 4) (dlen_le 3 _ (by omega))
    rw [if_neg, hd]
    · exact congrArg some (show (p.toNat : Int) = p by omega)
    · rw [e]; intro h; injection h with h; subst h; simp at h1
theorem powN_back {q : List UInt8} {p : Int} (h : powN q = some p) : q = Lib.itoa p := by
  unfold powN at h
  split at h
  · rename_i hh
    obtain ⟨c, r, rfl⟩ : ∃ c r, q = c :: r := by cases q with
      | nil => cases hh
      | cons c r => exact ⟨c, r, rfl⟩
    have hc : c = 45 := by injection hh
    subst hc
    simp only [List.tail_cons] at h
    cases hd : refDig r 4 with
    | none => rw [hd] at h; cases h
    | some n =>
      rw [hd] at h
      simp only [Option.bind_some] at h
      split at h
      · cases h
      · injection h with h
        rw [← h, Lib.itoa_neg _ (by omega), ← (dig_back hd).1]
  · cases hd : refDig q 4 with
    | none => rw [hd] at h; cases h
    | some n =>
      rw [hd] at h
      simp only [Option.map_some] at h
      injection h with h
      rw [← h, show Int.ofNat n = (n : Int) from rfl, Lib.itoa_nonneg, ← (dig_back hd).1]
theorem mag_back {t : List UInt8} {r : Nat} (h : refMag t = some r) : (t = [105, 110, 102] ∧ r = 9218868437227405312) ∨ (r < 9218868437227405312 ∧ plainB r = t) := by
  unfold refMag at h
  split at h
  · rename_i ht
    injection h with h
    exact Or.inl ⟨ht, h.symm⟩
  split at h
  · rename_i ht
    injection h with h
    subst h
    exact Or.inr ⟨by omega, ht.symm⟩
  cases hc : cutP t with
  | none => rw [hc] at h; cases h
  | some x =>
    obtain ⟨l, q⟩ := x
    rw [hc] at h
    simp only [Option.bind_some] at h
    unfold refMid at h
    cases hm : refDig l 16 with
    | none => rw [hm] at h; cases h
    | some m =>
      rw [hm] at h
      simp only [Option.bind_some] at h
      cases hp : powN q with
      | none => rw [hp] at h; cases h
      | some p =>
        rw [hp] at h
        simp only [Option.bind_some] at h
        obtain ⟨b1, b2, b3, b4⟩ := bits_back h
        obtain ⟨c1, c2⟩ := cutP_some hc
        refine Or.inr ⟨b2, ?_⟩
        unfold plainB
        rw [if_neg (by omega), b3, b4, c1, ← (dig_back hm).1, ← powN_back hp]
theorem mag_there {r : Nat} (h : r < 9218868437227405312) : refMag (plainB r) = some r := by
  by_cases h0 : r = 0
  · subst h0; rfl
  · obtain ⟨c, u, e, h1, h2⟩ := plain_cons r
    have n2 : plainB r ≠ [105, 110, 102] := by rw [e]; intro h; injection h with h _; subst h; simp at h2
    have ep : plainB r = Lib.decDigits (oddB r) ++ 112 :: Lib.itoa (powB r) := by unfold plainB; rw [if_neg h0]
    have n3 : plainB r ≠ [48] := by
      intro h
      have : (112 : UInt8) ∈ plainB r := by rw [ep]; simp
      rw [h] at this; simp at this
    have hbd := powB_bd (by omega) h
    have hb := bits_there r (by omega) h
    have hc := cutP_there (Lib.decDigits (oddB r)) (Lib.itoa (powB r)) (fun c hc => by
      have := (digits_bd (oddB r) c hc).2
      rintro rfl; simp at this)
    unfold refMag
    rw [if_neg n2, if_neg n3, ep, hc]
    simp only [Option.bind_some]
    unfold refMid
    have ho : oddB r < 9007199254740992 := by
      unfold refBits at hb
      split at hb
      · cases hb
      · omega
    rw [dig_there (dlen_le 15 _ (by omega)), powN_there hbd]
    exact hb
theorem refP_back {s : List UInt8} {c : Nat} (h : refP s = some c) : printB c = s ∧ canonB c = c ∧ c < 18446744073709551616 := by
  unfold refP at h
  split at h
  · rename_i hs
    injection h with h
    subst h hs
    have e1 : nanB 9221120237041090560 = true := by decide +kernel
    exact ⟨by unfold printB; rw [e1]; rfl, by decide +kernel, by omega⟩
  split at h
  · rename_i hh
    obtain ⟨x, t, rfl⟩ : ∃ c r, s = c :: r := by cases s with
      | nil => cases hh
      | cons c r => exact ⟨c, r, rfl⟩
    have hx : x = 45 := by injection hh
    subst hx
    simp only [List.tail_cons] at h
    cases hm : refMag t with
    | none => rw [hm] at h; cases h
    | some r =>
      rw [hm] at h
      simp only [Option.map_some] at h
      injection h with h
      have hr : r ≤ 9218868437227405312 := by rcases mag_back hm with h | h <;> omega
      have hb : c < 18446744073709551616 := by omega
      have h1 : nanB c = false := by rw [nanB_eq c hb]; simp; omega
      have h2 : infB c = false := by rw [infB_eq hb]; simp; omega
      have h3 : topB c = true := by unfold topB; simp; omega
      have h4 : negB c = r := by unfold negB; rw [if_pos h3]; omega
      refine ⟨?_, canonB_eq c h1, hb⟩
      unfold printB
      rw [h1, h2, h3, h4]
      rcases mag_back hm with ⟨ht, hr⟩ | ⟨hr, ht⟩
      · have h5 : infB r = true := by rw [infB_eq (by omega)]; simp [hr]
        rw [h5, ht]; rfl
      · have h5 : infB r = false := by rw [infB_eq (by omega)]; simp; omega
        rw [h5, ← ht]; rfl
  · have hr : c ≤ 9218868437227405312 := by rcases mag_back h with h | h <;> omega
    have hb : c < 18446744073709551616 := by omega
    have h1 : nanB c = false := by rw [nanB_eq c hb]; simp; omega
    have h3 : topB c = false := by unfold topB; simp; omega
    refine ⟨?_, canonB_eq c h1, hb⟩
    unfold printB
    rw [h1]
    rcases mag_back h with ⟨ht, hr⟩ | ⟨hr, ht⟩
    · have h5 : infB c = true := by rw [infB_eq (by omega)]; simp [hr]
      rw [h5, ht]; rfl
    · have h5 : infB c = false := by rw [infB_eq (by omega)]; simp; omega
      have h4 : negB c = c + 9223372036854775808 := by unfold negB; rw [if_neg (by rw [h3]; decide)]
      have h6 : infB (negB c) = false := by rw [h4, infB_eq (by omega)]; simp
      rw [h5, h6, h3]; exact ht
theorem refP_there (b : Nat) (hb : b < 18446744073709551616) : refP (printB b) = some (canonB b) := by
  cases h1 : nanB b with
  | true =>
    have e : printB b = [110, 97, 110] := by unfold printB; rw [if_pos h1]
    have e2 : canonB b = 9221120237041090560 := by unfold canonB; rw [if_pos h1]
    rw [e, e2]; rfl
  | false =>
    have hc := canonB_eq b h1
    rw [hc]
    cases h2 : infB b with
    | true =>
      have e : printB b = [105, 110, 102] := by unfold printB; rw [h1, h2]; rfl
      have eb : b = 9218868437227405312 := by rw [infB_eq hb] at h2; simpa using h2
      rw [e, eb]; rfl
    | false =>
      cases h3 : infB (negB b) with
      | true =>
        have e : printB b = [45, 105, 110, 102] := by unfold printB; rw [h1, h2, h3]; rfl
        have h4 : negB b = 9218868437227405312 := by rw [infB_eq (neg_lt hb)] at h3; simpa using h3
        have eb : b = 9223372036854775808 + 9218868437227405312 := by
          cases ht : topB b with
          | true =>
            have : negB b = b - 9223372036854775808 := by unfold negB; rw [if_pos ht]
            omega
          | false =>
            have : negB b = b + 9223372036854775808 := by unfold negB; rw [if_neg (by rw [ht]; decide)]
            omega
        rw [e, eb]; rfl
      | false =>
        have hf := fin_of hb h1 h2 h3
        cases h4 : topB b with
        | true =>
          have e : printB b = 45 :: plainB (negB b) := by unfold printB; rw [h1, h2, h3, h4]; rfl
          have h5 : 9223372036854775808 ≤ b := by unfold topB at h4; simpa using h4
          have h6 : negB b = b - 9223372036854775808 := by unfold negB; rw [if_pos h4]
          rw [e]; unfold refP
          rw [if_neg (by intro h; injection h with h _; cases h), if_pos List.head?_cons]
          simp only [List.tail_cons]
          rw [mag_there (by omega)]
          exact congrArg some (show 9223372036854775808 + negB b = b by omega)
        | false =>
          have e : printB b = plainB b := by unfold printB; rw [h1, h2, h3, h4]; rfl
          have hn : b < 9218868437227405312 := by unfold topB at h4; simp at h4; omega
          obtain ⟨c, r, ec, c1, c2⟩ := plain_cons b
          rw [e]; unfold refP
          rw [if_neg, if_neg, mag_there hn]
          · rw [ec]; intro h; injection h with h; subst h; simp at c1
          · rw [ec]; intro h; injection h with h _; subst h; simp at c2
theorem refP_eq (s : List UInt8) : refP s = readB s := by
  cases hr : refP s with
  | some c =>
    obtain ⟨h1, h2, h3⟩ := refP_back hr
    rw [← h1, read_print c h3, h2]
  | none =>
    cases hq : readB s with
    | none => rfl
    | some c =>
      obtain ⟨h1, h2⟩ := read_back hq
      have := refP_there c h2
      rw [h1, hr] at this; cases this
end Go.Proofs.YtgppadnbfggkcaaDoor
