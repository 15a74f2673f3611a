/- An id written is read again, and the other way round. -/
import Derived.Test.YteijekhmgedhoaaDoorShaU
namespace Go.Proofs.YteijekhmgedhoaaDoor
open Go.RowKit

def valN (s : List UInt8) (j : Nat) : Nat := (val (s.getD j 0)).toNat
def pairAt (s : List UInt8) (i : Nat) : UInt8 := UInt8.ofNat (valN s (2 * i) * 16 + valN s (2 * i + 1))
theorem valN_lt (s : List UInt8) (j : Nat) : valN s j < 16 := by
  have := val_lt (s.getD j 0)
  unfold valN; omega
theorem getD_mid (A R : List UInt8) (x : UInt8) {k : Nat} (h : A.length = k) : (A ++ x :: R).getD k 0 = x := by subst h; simp [List.getD]
theorem getD_get {l : List UInt8} {j : Nat} (h : j < l.length) : l.getD j 0 = l[j] := by simp [List.getD, List.getElem?_eq_getElem h]
def midAt (s : List UInt8) (k : Nat) : List UInt8 := (List.range k).map (pairAt s) ++ List.replicate (32 - k) 0
theorem outAt_two (s : List UInt8) (hd : allDig s 64) (k : Nat) (hk : k ≤ 32) : outAt s (2 * k) = midAt s k := by
  induction k with
  | zero => rfl
  | succ k ih =>
    have ih := ih (by omega)
    have h0 := hd (2 * k) (by omega)
    have h1 := hd (2 * k + 1) (by omega)
    have hv0 : val (s.getD (2 * k) 0) = (valN s (2 * k) : Int) := by unfold valN; omega
    have hv1 : val (s.getD (2 * k + 1) 0) = (valN s (2 * k + 1) : Int) := by unfold valN; omega
    have l0 := valN_lt s (2 * k)
    have l1 := valN_lt s (2 * k + 1)
    have hlen : ((List.range k).map (pairAt s)).length = k := by simp
    have hm : midAt s k = (List.range k).map (pairAt s) ++ 0 :: List.replicate (32 - (k + 1)) 0 := by
      unfold midAt; rw [show 32 - k = (32 - (k + 1)) + 1 by omega, List.replicate_succ]
    have e1 : outAt s (2 * k + 1) = (List.range k).map (pairAt s) ++ UInt8.ofNat (valN s (2 * k)) :: List.replicate (32 - (k + 1)) 0 := by
      rw [outAt, ih, hm, show 2 * k / 2 = k by omega, hv0]
      rw [getD_mid _ _ _ hlen, List.set_append_right _ _ (by omega), hlen, Nat.sub_self, List.set_cons_zero]
      congr 3
      have : ((0 : UInt8).toNat : Int) = 0 := rfl
      rw [this]; omega
    rw [show 2 * (k + 1) = 2 * k + 1 + 1 by omega, outAt, e1, show (2 * k + 1) / 2 = k by omega, hv1]
    rw [getD_mid _ _ _ hlen, List.set_append_right _ _ (by omega), hlen, Nat.sub_self, List.set_cons_zero]
    have e3 : (UInt8.ofNat (valN s (2 * k))).toNat = valN s (2 * k) := by simp; omega
    rw [e3]
    unfold midAt
    rw [List.range_succ, List.map_append, List.append_assoc]
    congr 1
    show _ :: _ = _ :: _
    congr 1
    unfold pairAt
    congr 1
    omega
theorem outAt_all (s : List UInt8) (hd : allDig s 64) : outAt s 64 = (List.range 32).map (pairAt s) := by
  have := outAt_two s hd 32 (by omega)
  rw [show 2 * 32 = 64 from rfl] at this
  rw [this]; unfold midAt; simp
theorem parseN_ok (s : List UInt8) (h : s.length = 64) (hd : allDig s 64) : parseN s = ((List.range 32).map (pairAt s), 0) := by
  unfold parseN
  rw [if_pos ⟨h, hd⟩, outAt_all s hd]
theorem val_digit_key : ∀ n, n < 16 → val (digit n) = (n : Int) := by decide +kernel
theorem digit_val_key : ∀ n, n < 256 → 0 ≤ val (UInt8.ofNat n) → digit (val (UInt8.ofNat n)).toNat = UInt8.ofNat n := by decide +kernel
theorem digit_val {c : UInt8} (h : 0 ≤ val c) : digit (val c).toNat = c := by
  have := digit_val_key c.toNat c.toNat_lt
  rw [UInt8.ofNat_toNat] at this
  exact this h
theorem hexL_at (l : List UInt8) (j : Nat) (h : j < 2 * l.length) : (hexL l).getD j 0 = digit (if j % 2 = 0 then (l.getD (j / 2) 0).toNat / 16 else (l.getD (j / 2) 0).toNat % 16) := by
  by_cases e : j % 2 = 0
  · rw [if_pos e]
    have := hexL_hi l (j / 2) (by omega)
    rwa [show 2 * (j / 2) = j by omega] at this
  · rw [if_neg e]
    have := hexL_lo l (j / 2) (by omega)
    rwa [show 2 * (j / 2) + 1 = j by omega] at this
/-- What is written is read again. -/
theorem parse_hex {l : List UInt8} (hl : l.length = 32) : parseN (hexL l) = (l, 0) := by
  have hlen : (hexL l).length = 64 := by rw [hexL_len, hl]
  have hv : ∀ j, j < 64 → val ((hexL l).getD j 0) = ((if j % 2 = 0 then (l.getD (j / 2) 0).toNat / 16 else (l.getD (j / 2) 0).toNat % 16 : Nat) : Int) := fun j hj => by
    have := (l.getD (j / 2) 0).toNat_lt
    rw [hexL_at l j (by omega), val_digit_key _ (by split <;> omega)]
  have hd : allDig (hexL l) 64 := fun j hj => by rw [hv j hj]; omega
  rw [parseN_ok _ hlen hd]
  refine congrArg (fun x => (x, 0)) ?_
  apply List.ext_getElem (by simp [hl])
  intro i h1 h2
  have hi : i < 32 := by omega
  have e1 : valN (hexL l) (2 * i) = (l.getD i 0).toNat / 16 := by
    unfold valN; rw [hv _ (by omega), if_pos (by omega), show 2 * i / 2 = i by omega]; rfl
  have e2 : valN (hexL l) (2 * i + 1) = (l.getD i 0).toNat % 16 := by
    unfold valN; rw [hv _ (by omega), if_neg (by omega), show (2 * i + 1) / 2 = i by omega]; rfl
  have e3 : l.getD i 0 = l[i] := by simp [List.getD, List.getElem?_eq_getElem h2]
  simp only [List.getElem_map, List.getElem_range]
  unfold pairAt
  rw [e1, e2, e3, show l[i].toNat / 16 * 16 + l[i].toNat % 16 = l[i].toNat by omega, UInt8.ofNat_toNat]
/-- What is read is written as it stood. -/
theorem hex_parse {s : List UInt8} (h : (parseN s).2 = 0) : hexL (parseN s).1 = s ∧ (parseN s).1.length = 32 := by
  by_cases hc : s.length = 64 ∧ allDig s 64
  · obtain ⟨hlen, hd⟩ := hc
    rw [parseN_ok _ hlen hd]
    show hexL ((List.range 32).map (pairAt s)) = s ∧ ((List.range 32).map (pairAt s)).length = 32
    refine ⟨?_, by simp⟩
    have hln : ((List.range 32).map (pairAt s)).length = 32 := by simp
    apply List.ext_getElem (by rw [hexL_len, hln, hlen])
    intro j h1 h2
    have hj : j < 64 := by omega
    have g1 := getD_get h1
    have g2 := getD_get h2
    have g3 : ((List.range 32).map (pairAt s)).getD (j / 2) 0 = pairAt s (j / 2) := by
      simp [List.getD, show j / 2 < 32 by omega]
    have l0 := valN_lt s (2 * (j / 2))
    have l1 := valN_lt s (2 * (j / 2) + 1)
    have e3 : (pairAt s (j / 2)).toNat = valN s (2 * (j / 2)) * 16 + valN s (2 * (j / 2) + 1) := by unfold pairAt; simp; omega
    rw [← g1, ← g2, hexL_at _ j (by rw [hln]; omega), g3, e3]
    have hdv := digit_val (hd j hj)
    rw [← hdv]
    congr 1
    by_cases e : j % 2 = 0
    · have e4 : 2 * (j / 2) = j := by omega
      rw [e4] at l0 l1 ⊢
      rw [if_pos e]
      show _ = valN s j
      omega
    · have e4 : 2 * (j / 2) + 1 = j := by omega
      rw [e4] at l1 ⊢
      rw [if_neg e]
      show _ = valN s j
      omega
  · unfold parseN at h
    rw [if_neg hc] at h
    exact absurd h (by decide)
theorem parseN_len (s : List UInt8) : (parseN s).1.length = 32 := by
  unfold parseN; split
  · simp only [outAt_len]
  · rfl
theorem parseN_cases (s : List UInt8) : (parseN s).2 = 0 ∨ parseN s = (zeros, 30) := by
  unfold parseN; split
  · exact Or.inl rfl
  · exact Or.inr rfl
end Go.Proofs.YteijekhmgedhoaaDoor
