/- Plain lemmas: what is written is read again, and the other way round; what is cut short is too short. Plain lemmas: values are read as they are written, and written as they are read. -/
import Derived.Test.YtdolonkeanlaoaaDoorGrTW
import Derived.Test.YtdolonkeanlaoaaDoorGrXA
namespace Go.Proofs.YtdolonkeanlaoaaDoor
open Go.RowKit

theorem headLoop_on (q : Nat) : ∀ (s n : Nat) (r : List UInt8), 0 < q → s ≤ 61 → s % 7 = 5 → q * 2 ^ s < 18446744073709551616 → headLoop s n (headL (q % 128) (q / 128) ++ r) = .ok (n + q * 2 ^ s, r) := by
  induction q using Nat.strongRecOn with
  | ind q ih =>
    intro s n r hq hs h7 hb
    have h61 : s = 61 → q ≤ 7 := by
      rintro rfl
      have : (2 : Nat) ^ 61 = 2305843009213693952 := rfl
      omega
    rw [headL]
    by_cases h0 : q / 128 = 0
    · rw [if_pos h0]
      have e : q % 128 = q := by omega
      have hno : ¬ (q = 0 ∨ (s = 61 ∧ 7 < q)) := fun h => h.elim (fun h => by omega) (fun h => by have := h61 h.1; omega)
      simp only [List.cons_append, List.nil_append, headLoop]
      rw [u8_of _ (by omega), e, if_neg hno, if_neg (by omega), e]
    · rw [if_neg h0]
      have hs61 : s ≠ 61 := fun h => by have := h61 h; omega
      have hno : ¬ (q % 128 + 128 = 0 ∨ (s = 61 ∧ 7 < q % 128 + 128)) := fun h => h.elim (fun h => by omega) (fun h => hs61 h.1)
      simp only [List.cons_append, headLoop]
      rw [u8_of _ (by omega), if_neg hno, if_pos (by omega)]
      have hp : (2 : Nat) ^ (s + 7) = 128 * 2 ^ s := by rw [Nat.pow_add, Nat.mul_comm]
      have hm : q / 128 * 2 ^ (s + 7) + q % 128 * 2 ^ s = q * 2 ^ s := by
        rw [hp, ← Nat.mul_assoc, ← Nat.add_mul]
        congr 1
        omega
      rw [ih (q / 128) (by omega) (s + 7) _ r (by omega) (by omega) (by omega) (by omega)]
      have e : (q % 128 + 128) % 128 = q % 128 := by omega
      rw [e]
      congr 2
      omega
theorem headD_on (k n : Nat) (r : List UInt8) (hk : k < 4) (hn : n < 18446744073709551616) : headD (headB k n ++ r) = .ok (k, n, r) := by
  unfold headB
  rw [headL]
  by_cases h0 : n / 32 = 0
  · rw [if_pos h0]
    simp only [List.cons_append, List.nil_append, headD]
    rw [u8_of _ (by omega), if_neg (by omega)]
    congr 3 <;> omega
  · rw [if_neg h0]
    simp only [List.cons_append, headD]
    rw [u8_of _ (by omega), if_pos (by omega)]
    have e : (n % 32 * 4 + k + 128) % 128 / 4 = n % 32 := by omega
    have e2 : (n % 32 * 4 + k + 128) % 4 = k := by omega
    have e3 : n % 32 + n / 32 * 2 ^ 5 = n := by omega
    rw [e, e2, headLoop_on (n / 32) 5 _ r (by omega) (by omega) rfl (by omega), e3]
theorem headLoop_cut : ∀ (l : List UInt8) (s n : Nat) {m : Nat} {r : List UInt8}, headLoop s n l = .ok (m, r) → ∀ j, j + r.length < l.length → headLoop s n (l.take j) = .error 20
  | [], s, n, m, r, h => by simp only [headLoop] at h; cases h
  | p :: l, s, n, m, r, h => by
    intro j hj
    cases j with
    | zero => simp only [List.take_zero, headLoop]
    | succ j =>
      simp only [headLoop] at h
      simp only [List.take_succ_cons, headLoop]
      split at h
      · cases h
      rename_i hne
      rw [if_neg hne]
      split at h
      · rename_i hge
        rw [if_pos hge]
        exact headLoop_cut l _ _ h j (by simp at hj; omega)
      · injection h with h
        injection h with _ h
        subst h
        simp at hj; omega
theorem headD_cut {l r : List UInt8} {k n : Nat} (h : headD l = .ok (k, n, r)) (j : Nat) (hj : j + r.length < l.length) : headD (l.take j) = .error 20 := by
  cases l with
  | nil => simp only [headD] at h; cases h
  | cons c l =>
    cases j with
    | zero => simp only [List.take_zero, headD]
    | succ j =>
      simp only [headD] at h
      simp only [List.take_succ_cons, headD]
      split at h
      · rename_i hge
        rw [if_pos hge]
        cases hl : headLoop 5 (c.toNat % 128 / 4) l with
        | error e => rw [hl] at h; cases h
        | ok y =>
          obtain ⟨m, r'⟩ := y
          rw [hl] at h
          injection h with h
          injection h with _ h
          injection h with _ h
          subst h
          rw [headLoop_cut l _ _ hl j (by simp at hj; omega)]
      · injection h with h
        injection h with _ h
        injection h with _ h
        subst h
        simp at hj; omega
theorem headLoop_lt : ∀ (l : List UInt8) (s n : Nat) {m : Nat} {r : List UInt8}, n < 2 ^ s → s ≤ 61 → s % 7 = 5 → headLoop s n l = .ok (m, r) → m < 18446744073709551616
  | [], s, n, m, r, _, _, _, h => by simp only [headLoop] at h; cases h
  | p :: l, s, n, m, r, hn, hs, h7, h => by
    have hp := p.toNat_lt
    simp only [headLoop] at h
    split at h
    · cases h
    rename_i hne
    have hb := next_bd n (p.toNat % 128) s hn (by omega)
    split at h
    · rename_i hge
      have h61 : s ≠ 61 := fun e => hne (Or.inr ⟨e, by omega⟩)
      exact headLoop_lt l _ _ hb (by omega) (by omega) h
    · injection h with h
      injection h with h _
      subst h
      by_cases h61 : s = 61
      · subst h61
        have : (2 : Nat) ^ 61 = 2305843009213693952 := rfl
        have : ¬ 7 < p.toNat := fun e => hne (Or.inr ⟨rfl, e⟩)
        omega
      · have := pow_bd (s := s) (by omega)
        omega
theorem headD_lt {l r : List UInt8} {k n : Nat} (h : headD l = .ok (k, n, r)) : n < 18446744073709551616 := by
  cases l with
  | nil => simp only [headD] at h; cases h
  | cons c l =>
    have hc := c.toNat_lt
    simp only [headD] at h
    split at h
    · cases hl : headLoop 5 (c.toNat % 128 / 4) l with
      | error e => rw [hl] at h; cases h
      | ok y =>
        obtain ⟨m, r'⟩ := y
        rw [hl] at h
        injection h with h
        injection h with _ h
        injection h with h _
        subst h
        exact headLoop_lt l _ _ (by omega) (by omega) rfl hl
    · injection h with h
      injection h with _ h
      injection h with h _
      subst h
      omega
/-- What reading does: it takes a beginning, whatever stands behind; a shorter one is too short; and it is what is written. -/
def Takes (g : List UInt8 → Except Int (Val × List UInt8)) (enc : List UInt8 → Val → Except Int (List UInt8)) : Prop :=
  ∀ (l : List UInt8) (x : Val) (r : List UInt8), g l = .ok (x, r) → ∃ t, l = t ++ r ∧ (∀ rest, g (t ++ rest) = .ok (x, rest)) ∧ (∀ j, j < t.length → g (t.take j) = .error 20) ∧ (∀ o, o.length + t.length ≤ 1048576 → enc o x = .ok (o ++ t))
theorem takes_list {g : List UInt8 → Except Int (Val × List UInt8)} {enc : List UInt8 → Val → Except Int (List UInt8)} (hg : Takes g enc) : ∀ (m : Nat) {l : List UInt8} {xs : List Val} {r : List UInt8}, listD g m l = .ok (xs, r) →
    ∃ t, l = t ++ r ∧ (∀ rest, listD g m (t ++ rest) = .ok (xs, rest)) ∧ (∀ j, j < t.length → listD g m (t.take j) = .error 20) ∧ (∀ o, o.length + t.length ≤ 1048576 → foldE enc xs o = .ok (o ++ t))
  | 0, l, xs, r, h => by
    simp only [listD] at h
    injection h with h; injection h with h1 h2
    subst h1 h2
    exact ⟨[], rfl, fun rest => rfl, fun j hj => by simp at hj, fun o _ => by simp [foldE]⟩
  | m + 1, l, xs, r, h => by
    simp only [listD] at h
    cases hl : g l with
    | error c => rw [hl] at h; cases h
    | ok y =>
      obtain ⟨x, r1⟩ := y
      rw [hl] at h
      simp only at h
      cases hm : listD g m r1 with
      | error c => rw [hm] at h; cases h
      | ok z =>
        obtain ⟨ys, r2⟩ := z
        rw [hm] at h
        injection h with h
        injection h with h1 h2
        subst h1 h2
        obtain ⟨t1, e1, f1, c1, w1⟩ := hg _ _ _ hl
        obtain ⟨t2, e2, f2, c2, w2⟩ := takes_list hg m hm
        refine ⟨t1 ++ t2, by rw [e1, e2, List.append_assoc], fun rest => ?_, fun j hj => ?_, fun o ho => ?_⟩
        · simp only [listD]
          rw [List.append_assoc, f1]
          simp only
          rw [f2]
        · simp only [listD]
          by_cases hj1 : j < t1.length
          · rw [List.take_append_of_le_length (by omega), c1 j hj1]
          · rw [List.take_append, List.take_of_length_le (by omega), f1]
            simp only
            rw [c2 _ (by rw [List.length_append] at hj; omega)]
        · rw [List.length_append] at ho
          simp only [foldE]
          rw [w1 o (by omega)]
          simp only
          rw [w2 _ (by rw [List.length_append]; omega), List.append_assoc]
end Go.Proofs.YtdolonkeanlaoaaDoor
namespace Go.Proofs.YtdolonkeanlaoaaDoor
open Go.RowKit

theorem eight_of {t : List UInt8} (h : t.length = 8) : ∃ a b c d e f g i, t = [a, b, c, d, e, f, g, i] := by
  match t, h with
  | [a, b, c, d, e, f, g, i], _ => exact ⟨a, b, c, d, e, f, g, i, rfl⟩
theorem be8_beN {t : List UInt8} (h : t.length = 8) : be8 (beN t) = t := by
  obtain ⟨a, b, c, d, e, f, g, i, rfl⟩ := eight_of h
  have ha := a.toNat_lt
  have hb := b.toNat_lt
  have hc := c.toNat_lt
  have hd := d.toNat_lt
  have he := e.toNat_lt
  have hf := f.toNat_lt
  have hg := g.toNat_lt
  have hi := i.toNat_lt
  have hr : List.range 8 = [0, 1, 2, 3, 4, 5, 6, 7] := rfl
  unfold be8 beN
  rw [hr]
  simp only [List.map_cons, List.map_nil, List.foldl_cons, List.foldl_nil]
  have key : ∀ (x : UInt8) (n : Nat), n = x.toNat → UInt8.ofNat n = x := fun x n e => by rw [e]; simp
  congr 1
  · apply key; simp only [Nat.reduceSub, Nat.reduceMul, Nat.reducePow]; omega
  congr 1
  · apply key; simp only [Nat.reduceSub, Nat.reduceMul, Nat.reducePow]; omega
  congr 1
  · apply key; simp only [Nat.reduceSub, Nat.reduceMul, Nat.reducePow]; omega
  congr 1
  · apply key; simp only [Nat.reduceSub, Nat.reduceMul, Nat.reducePow]; omega
  congr 1
  · apply key; simp only [Nat.reduceSub, Nat.reduceMul, Nat.reducePow]; omega
  congr 1
  · apply key; simp only [Nat.reduceSub, Nat.reduceMul, Nat.reducePow]; omega
  congr 1
  · apply key; simp only [Nat.reduceSub, Nat.reduceMul, Nat.reducePow]; omega
  congr 1
  · apply key; simp only [Nat.reduceSub, Nat.reduceMul, Nat.reducePow]; omega
theorem be8_len (b : Nat) : (be8 b).length = 8 := by simp [be8]
theorem beN_be8 (b : Nat) (h : b < 18446744073709551616) : beN (be8 b) = b := by
  have hr : List.range 8 = [0, 1, 2, 3, 4, 5, 6, 7] := rfl
  unfold be8 beN
  rw [hr]
  simp only [List.map_cons, List.map_nil, List.foldl_cons, List.foldl_nil]
  have key : ∀ n : Nat, (UInt8.ofNat (n % 256)).toNat = n % 256 := fun n => u8_of _ (by omega)
  simp only [key, Nat.reduceSub, Nat.reduceMul, Nat.reducePow]
  omega
theorem canon_canon (b : Nat) : canonB (canonB b) = canonB b := by
  by_cases h : nanB b = true
  · have e : canonB b = 9221120237041090560 := by unfold canonB; rw [if_pos h]
    rw [e]
    unfold canonB
    split <;> rfl
  · have e : canonB b = b := by unfold canonB; rw [if_neg h]
    rw [e, e]
theorem floatD_on (f : Nat) (rest : List UInt8) (hf : f < 18446744073709551616) (hc : canonB f = f) : floatD 0 (be8 f ++ rest) = .ok (f, rest) := by
  have hl := be8_len f
  have ht : (be8 f ++ rest).take 8 = be8 f := by rw [← hl, List.take_left]
  have hd : (be8 f ++ rest).drop 8 = rest := by rw [← hl, List.drop_left]
  unfold floatD
  rw [if_neg (by rw [List.length_append]; omega), ht, hd, beN_be8 f hf, if_neg (by intro h; rcases h with h | h; exact h rfl; exact h hc)]
theorem floatD_of {m f : Nat} {l r : List UInt8} (h : floatD m l = .ok (f, r)) : m = 0 ∧ canonB f = f ∧ f < 18446744073709551616 ∧ l = be8 f ++ r := by
  unfold floatD at h
  split at h
  · cases h
  rename_i hl
  split at h
  · cases h
  rename_i hne
  injection h with h
  injection h with h1 h2
  have ht : (l.take 8).length = 8 := by rw [List.length_take]; omega
  have hlt : beN (l.take 8) < 18446744073709551616 := by
    have := beN_lt 8 (l.take 8) (by omega)
    simpa using this
  rw [h1] at hne hlt
  have hb := be8_beN ht
  rw [h1] at hb
  refine ⟨Classical.byContradiction fun e => hne (Or.inl e), Classical.byContradiction fun e => hne (Or.inr e), hlt, ?_⟩
  rw [hb, ← h2, List.take_append_drop]
theorem takes_val : ∀ n, Takes (valD n) (encV n)
  | 0 => by
    intro l x r h
    simp only [valD] at h; cases h
  | n + 1 => by
    intro l x r h
    have ih := takes_val n
    simp only [valD] at h
    cases hh : headD l with
    | error c => rw [hh] at h; cases h
    | ok y =>
      obtain ⟨k, m, r1⟩ := y
      obtain ⟨e0, hk⟩ := headD_of hh
      have hm := headD_lt hh
      rw [hh] at h
      simp only at h
      have cutH : ∀ t j, j < (headB k m).length → headD ((headB k m ++ t).take j) = .error 20 := fun t j hj =>
        headD_cut (headD_on k m t hk hm) j (by rw [List.length_append]; omega)
      have cut : ∀ t j, j < (headB k m).length → valD (n + 1) ((headB k m ++ t).take j) = .error 20 := fun t j hj => by
        simp only [valD]; rw [cutH t j hj]
      have onH : ∀ t, headD (headB k m ++ t) = .ok (k, m, t) := fun t => headD_on k m t hk hm
      have tk : ∀ t j, (headB k m).length ≤ j → (headB k m ++ t).take j = headB k m ++ t.take (j - (headB k m).length) := fun t j hj => by
        rw [List.take_append, List.take_of_length_le hj]
      by_cases h0 : k = 0
      · subst h0
        rw [if_pos rfl] at h
        injection h with h; injection h with h1 h2
        subst h1 h2
        refine ⟨headB 0 m, e0, fun rest => ?_, fun j hj => ?_, fun o ho => ?_⟩
        · simp only [valD]; rw [onH]; rfl
        · have := cut [] j hj; rwa [List.append_nil] at this
        · rw [enc_num]; exact cap_ok (by rw [List.length_append]; omega)
      rw [if_neg h0] at h
      by_cases h1 : k = 1
      · subst h1
        rw [if_pos rfl] at h
        split at h
        · cases h
        rename_i hlen
        injection h with h; injection h with h1 h2
        subst h1 h2
        have htl : (r1.take m).length = m := by rw [List.length_take]; omega
        refine ⟨headB 1 m ++ r1.take m, by rw [List.append_assoc, List.take_append_drop]; exact e0, fun rest => ?_, fun j hj => ?_, fun o ho => ?_⟩
        · rw [List.append_assoc]
          simp only [valD]
          rw [onH]
          simp only [Nat.one_ne_zero, if_false, if_true]
          rw [if_neg (by rw [List.length_append]; omega)]
          have ht : (r1.take m ++ rest).take m = r1.take m := by
            conv => lhs; arg 1; rw [← htl]
            rw [List.take_left]
          have hd : (r1.take m ++ rest).drop m = rest := by
            conv => lhs; arg 1; rw [← htl]
            rw [List.drop_left]
          rw [ht, hd]
        · by_cases hj1 : j < (headB 1 m).length
          · exact cut _ j hj1
          · rw [tk _ _ (by omega)]
            simp only [valD]
            rw [onH]
            simp only [Nat.one_ne_zero, if_false, if_true]
            rw [if_pos (by rw [List.length_take]; rw [List.length_append] at hj; omega)]
        · rw [List.length_append] at ho
          rw [enc_bytes, htl, if_neg (by omega), List.append_assoc]
          exact cap_ok (by rw [List.length_append, List.length_append]; omega)
      rw [if_neg h1] at h
      by_cases h2 : k = 2
      · subst h2
        rw [if_pos rfl] at h
        cases hf : floatD m r1 with
        | error c => rw [hf] at h; cases h
        | ok z =>
          obtain ⟨f, r2⟩ := z
          rw [hf] at h
          injection h with h; injection h with h1 h2
          subst h1 h2
          obtain ⟨rfl, hc, hfl, e1⟩ := floatD_of hf
          have hl8 := be8_len f
          refine ⟨headB 2 0 ++ be8 f, by rw [List.append_assoc, ← e1]; exact e0, fun rest => ?_, fun j hj => ?_, fun o ho => ?_⟩
          · rw [List.append_assoc]
            simp only [valD]
            rw [onH]
            simp only [show ¬ (2 : Nat) = 0 by omega, if_false, if_true, show ¬ (2 : Nat) = 1 by omega]
            rw [floatD_on f rest hfl hc]
          · by_cases hj1 : j < (headB 2 0).length
            · exact cut _ j hj1
            · rw [tk _ _ (by omega)]
              simp only [valD]
              rw [onH]
              simp only [show ¬ (2 : Nat) = 0 by omega, if_false, if_true, show ¬ (2 : Nat) = 1 by omega]
              have e : floatD 0 ((be8 f).take (j - (headB 2 0).length)) = .error 20 := by
                unfold floatD
                rw [if_pos (by rw [List.length_take]; rw [List.length_append] at hj; omega)]
              rw [e]
          · rw [enc_real]
            unfold floatL
            rw [hc]
            exact cap_ok (by rw [List.length_append]; omega)
      rw [if_neg h2] at h
      have h3 : k = 3 := by omega
      subst h3
      cases hd : listD (valD n) m r1 with
      | error c => rw [hd] at h; cases h
      | ok z =>
        obtain ⟨xs, r2⟩ := z
        rw [hd] at h
        injection h with h; injection h with h1 h2
        subst h1 h2
        obtain ⟨t2, e1, f2, c2, w2⟩ := takes_list ih m hd
        have hxl := (listD_less (fun e => valD_less e) m r1 hd).2
        refine ⟨headB 3 m ++ t2, by rw [List.append_assoc, ← e1]; exact e0, fun rest => ?_, fun j hj => ?_, fun o ho => ?_⟩
        · rw [List.append_assoc]
          simp only [valD]
          rw [onH]
          simp only [show ¬ (3 : Nat) = 0 by omega, if_false, show ¬ (3 : Nat) = 1 by omega, show ¬ (3 : Nat) = 2 by omega]
          rw [f2]
        · by_cases hj1 : j < (headB 3 m).length
          · exact cut _ j hj1
          · rw [tk _ _ (by omega)]
            simp only [valD]
            rw [onH]
            simp only [show ¬ (3 : Nat) = 0 by omega, if_false, show ¬ (3 : Nat) = 1 by omega, show ¬ (3 : Nat) = 2 by omega]
            rw [c2 _ (by rw [List.length_append] at hj; omega)]
        · rw [List.length_append] at ho
          rw [enc_list, hxl, w2 _ (by rw [List.length_append]; omega), List.append_assoc]
          exact cap_ok (by rw [List.length_append, List.length_append]; omega)
/-- A value as it is read back: what its kind does not use is zero, a number with a point is its Canon. -/
def normV : Nat → Val → Val
  | 0, x => x
  | n + 1, .mk k u b f l => if k = 0 then .mk 0 u [] 0 [] else if k = 1 then .mk 1 0 b 0 [] else if k = 2 then .mk 2 0 [] (canonB f) [] else .mk k 0 [] 0 (l.map (normV n))
def FineV : Nat → Val → Prop
  | 0, _ => True
  | n + 1, .mk _ u b f l => u < 18446744073709551616 ∧ f < 18446744073709551616 ∧ b.length ≤ 1048576 ∧ l.length ≤ 1048576 ∧ ∀ x ∈ l, FineV n x
theorem Reads.fine {B : Nat} {w : World} : ∀ {n : Nat} {v : Value} {x : Val}, Reads B w n v x → FineV n x
  | 0, _, .mk .., _ => trivial
  | n + 1, v, .mk k u b f l, h => by
    obtain ⟨vb, vl, _, h2, h3, h4, h5, _, h7⟩ := h
    refine ⟨h2, h3, h4, h5, fun x hx => ?_⟩
    rcases h7 with ⟨_, _, _, rfl⟩ | ⟨g, o, cap, _, _, hc⟩
    · simp at hx
    · obtain ⟨j, hj, rfl⟩ := List.mem_iff_getElem.1 hx
      obtain ⟨c0, c1, c2, c3, c4, _, _, _, _, _, hr⟩ := hc j _ (List.getElem?_eq_getElem hj)
      exact Reads.fine hr
theorem capE_ok {r : Except Int (List UInt8)} {q : List UInt8} (h : capE r = .ok q) : r = .ok q := by
  cases r with
  | error c => simp only [capE] at h; cases h
  | ok p =>
    simp only [capE] at h
    split at h
    · cases h
    · exact h
def Gives (enc : List UInt8 → Val → Except Int (List UInt8)) (g : List UInt8 → Except Int (Val × List UInt8)) (f : Val → Val) (P : Val → Prop) : Prop :=
  ∀ (o : List UInt8) (x : Val) (q : List UInt8), P x → enc o x = .ok q → ∃ t, q = o ++ t ∧ ∀ rest, g (t ++ rest) = .ok (f x, rest)
theorem gives_list {enc : List UInt8 → Val → Except Int (List UInt8)} {g : List UInt8 → Except Int (Val × List UInt8)} {f : Val → Val} {P : Val → Prop} (h : Gives enc g f P) : ∀ (l : List Val) (o q : List UInt8), (∀ x ∈ l, P x) → foldE enc l o = .ok q →
    ∃ t, q = o ++ t ∧ ∀ rest, listD g l.length (t ++ rest) = .ok (l.map f, rest)
  | [], o, q, _, e => by
    simp only [foldE] at e
    injection e with e
    exact ⟨[], by rw [e, List.append_nil], fun rest => rfl⟩
  | x :: l, o, q, hP, e => by
    simp only [foldE] at e
    cases hx : enc o x with
    | error c => rw [hx] at e; cases e
    | ok o1 =>
      rw [hx] at e
      simp only at e
      obtain ⟨t1, e1, f1⟩ := h o x o1 (hP x List.mem_cons_self) hx
      obtain ⟨t2, e2, f2⟩ := gives_list h l o1 q (fun y hy => hP y (List.mem_cons_of_mem _ hy)) e
      refine ⟨t1 ++ t2, by rw [e2, e1, List.append_assoc], fun rest => ?_⟩
      simp only [listD, List.length_cons, List.map_cons]
      rw [List.append_assoc, f1]
      simp only
      rw [f2]
theorem gives_val : ∀ n, Gives (encV n) (valD n) (normV n) (FineV n)
  | 0 => by
    intro o x q _ h
    simp only [encV] at h; cases h
  | n + 1 => by
    intro o x q hF h
    obtain ⟨k, u, b, f, l⟩ := x
    obtain ⟨hu, hf, hb, hl, hel⟩ := hF
    by_cases h0 : k = 0
    · subst h0
      rw [enc_num] at h
      have h := capE_ok h
      injection h with h
      refine ⟨headB 0 u, h.symm, fun rest => ?_⟩
      simp only [valD, normV]
      rw [headD_on 0 u rest (by omega) hu]
      rfl
    by_cases h1 : k = 1
    · subst h1
      rw [enc_bytes, if_neg (by omega)] at h
      have h := capE_ok h
      injection h with h
      refine ⟨headB 1 b.length ++ b, by rw [← h, List.append_assoc], fun rest => ?_⟩
      simp only [valD, normV]
      rw [List.append_assoc, headD_on 1 b.length _ (by omega) (by omega)]
      simp only [Nat.one_ne_zero, if_false, if_true]
      rw [if_neg (by rw [List.length_append]; omega), List.take_left, List.drop_left]
      rfl
    by_cases h2 : k = 2
    · subst h2
      rw [enc_real] at h
      have h := capE_ok h
      injection h with h
      refine ⟨floatL f, h.symm, fun rest => ?_⟩
      unfold floatL
      simp only [valD, normV]
      rw [List.append_assoc, headD_on 2 0 _ (by omega) (by omega)]
      simp only [show ¬ (2 : Nat) = 0 by omega, if_false, if_true, show ¬ (2 : Nat) = 1 by omega]
      rw [floatD_on (canonB f) rest (canonB_lt hf) (canon_canon f)]
      rfl
    by_cases h3 : k = 3
    · subst h3
      rw [enc_list] at h
      have h := capE_ok h
      obtain ⟨t, e, ft⟩ := gives_list (gives_val n) l _ q hel h
      refine ⟨headB 3 l.length ++ t, by rw [e, List.append_assoc], fun rest => ?_⟩
      simp only [valD, normV]
      rw [List.append_assoc, headD_on 3 l.length _ (by omega) (by omega)]
      simp only [show ¬ (3 : Nat) = 0 by omega, if_false, show ¬ (3 : Nat) = 1 by omega, show ¬ (3 : Nat) = 2 by omega]
      rw [ft]
      rfl
    · rw [enc_other _ _ _ _ _ _ _ h0 h1 h2 h3] at h; cases h
theorem norm_deep : ∀ (n : Nat) (x : Val), Deep n x → Deep n (normV n x)
  | 0, _, h => h
  | n + 1, .mk k u b f l, h => by
    simp only [normV]
    split
    · intro y hy; simp at hy
    split
    · intro y hy; simp at hy
    split
    · intro y hy; simp at hy
    · intro y hy
      obtain ⟨z, hz, rfl⟩ := List.mem_map.1 hy
      exact norm_deep n z (h z hz)
/-- What is written is read, and written again as the same bytes. -/
theorem enc_dec {x : Val} {q : List UInt8} (hF : FineV 16 x) (h : encR x = .ok q) : decR q = .ok (normV 16 x) ∧ encR (normV 16 x) = .ok q := by
  have hl := enc_len (n := 16) h
  obtain ⟨t, e, f⟩ := gives_val 16 [] x q hF h
  rw [List.nil_append] at e
  subst e
  have f0 := f []
  rw [List.append_nil] at f0
  obtain ⟨t2, e2, _, _, w2⟩ := takes_val 16 _ _ _ f0
  rw [List.append_nil] at e2
  subst e2
  refine ⟨?_, ?_⟩
  · unfold decR; rw [if_neg (by omega), f0]
  · have := w2 [] (by simpa using hl)
    exact this
/-- What is read is written as just those bytes. -/
theorem dec_enc {q : List UInt8} {x : Val} (h : decR q = .ok x) : encR x = .ok q := by
  unfold decR at h
  split at h
  · cases h
  rename_i hl
  cases hv : valD 16 q with
  | error c => rw [hv] at h; cases h
  | ok p =>
    obtain ⟨y, r⟩ := p
    rw [hv] at h
    cases r with
    | cons c r => cases h
    | nil =>
      injection h with h
      subst h
      obtain ⟨t2, e2, _, _, w2⟩ := takes_val 16 _ _ _ hv
      rw [List.append_nil] at e2
      subst e2
      exact w2 [] (by simp; omega)
theorem enc_cut {x : Val} {q : List UInt8} (hF : FineV 16 x) (h : encR x = .ok q) (j : Nat) (hj : j < q.length) : decR (q.take j) = .error 20 := by
  have hl := enc_len (n := 16) h
  obtain ⟨t, e, f⟩ := gives_val 16 [] x q hF h
  rw [List.nil_append] at e
  subst e
  have f0 := f []
  rw [List.append_nil] at f0
  obtain ⟨t2, e2, _, c2, _⟩ := takes_val 16 _ _ _ f0
  rw [List.append_nil] at e2
  subst e2
  unfold decR
  rw [if_neg (by rw [List.length_take]; omega), c2 j hj]
theorem enc_more {x : Val} {q m : List UInt8} (hF : FineV 16 x) (h : encR x = .ok q) : decR (q ++ m) = if 1048576 < q.length + m.length then .error 2 else if m = [] then .ok (normV 16 x) else .error 23 := by
  obtain ⟨t, e, f⟩ := gives_val 16 [] x q hF h
  rw [List.nil_append] at e
  subst e
  unfold decR
  rw [List.length_append, f]
  split
  · rfl
  · cases m with
    | nil => rfl
    | cons c m => simp
end Go.Proofs.YtdolonkeanlaoaaDoor
