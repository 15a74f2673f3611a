/- Signs below 128 in a text: rune by rune or byte by byte. -/
import Derived.Test.YthigepjddfdbmaaDoorPathB
import Derived.Shelf.GgClosure.StringsIndexFunc
namespace Go.Proofs.YthigepjddfdbmaaDoor
open Go.Lib

def byteN (s : ByteArray) (j : Nat) : Nat := (s.get! j).toNat
theorem decode_lo (s : ByteArray) (i : Nat) (h : byteN s i < 128) : Utf8.decode s i = (byteN s i, 1) := by
  unfold byteN at h ⊢
  unfold Utf8.decode
  simp only [Nat.add_zero]
  rw [if_pos h]
theorem decode_hi (s : ByteArray) (i : Nat) (hi : i < s.size) (h : 128 ≤ byteN s i) : 128 ≤ (Utf8.decode s i).1 ∧ 1 ≤ (Utf8.decode s i).2 ∧ ∀ j, i ≤ j → j < i + (Utf8.decode s i).2 → j < s.size ∧ 128 ≤ byteN s j := by
  have one : ∀ j, i ≤ j → j < i + 1 → j < s.size ∧ 128 ≤ byteN s j := fun j h1 h2 => by
    have : j = i := by omega
    subst this; exact ⟨hi, h⟩
  have cont : ∀ k, (decide (i + k < s.size) && (s.get! (i + k)).toNat / 64 == 2) = true → i + k < s.size ∧ 128 ≤ byteN s (i + k) := fun k hk => by
    simp only [Bool.and_eq_true, decide_eq_true_eq, beq_iff_eq] at hk
    exact ⟨hk.1, by unfold byteN; omega⟩
  unfold byteN at h
  unfold Utf8.decode
  simp only [Nat.add_zero]
  rw [if_neg (by omega)]
  have re : 128 ≤ Utf8.runeError := by decide
  split
  · rename_i h2
    simp only [Bool.and_eq_true] at h2
    have c1 := cont 1 (by simpa using h2.2)
    split
    · rename_i h3
      refine ⟨by show 128 ≤ _; omega, by show 1 ≤ (_ : Nat); omega, fun j h4 h5 => ?_⟩
      have : j = i ∨ j = i + 1 := by simp only at h5; omega
      rcases this with rfl | rfl
      · exact one _ (by omega) (by omega)
      · exact c1
    · exact ⟨re, by decide, one⟩
  · split
    · rename_i h2
      simp only [Bool.and_eq_true] at h2
      have c1 := cont 1 (by simpa using h2.1.2)
      have c2 := cont 2 (by simpa using h2.2)
      split
      · rename_i h3
        simp only [Bool.and_eq_true, decide_eq_true_eq] at h3
        refine ⟨by show 128 ≤ _; omega, by show 1 ≤ (_ : Nat); omega, fun j h4 h5 => ?_⟩
        have : j = i ∨ j = i + 1 ∨ j = i + 2 := by simp only at h5; omega
        rcases this with rfl | rfl | rfl
        · exact one _ (by omega) (by omega)
        · exact c1
        · exact c2
      · exact ⟨re, by decide, one⟩
    · split
      · rename_i h2
        simp only [Bool.and_eq_true] at h2
        have c1 := cont 1 (by simpa using h2.1.1.2)
        have c2 := cont 2 (by simpa using h2.1.2)
        have c3 := cont 3 (by simpa using h2.2)
        split
        · rename_i h3
          simp only [Bool.and_eq_true, decide_eq_true_eq] at h3
          refine ⟨by show 128 ≤ _; omega, by show 1 ≤ (_ : Nat); omega, fun j h4 h5 => ?_⟩
          have : j = i ∨ j = i + 1 ∨ j = i + 2 ∨ j = i + 3 := by simp only at h5; omega
          rcases this with rfl | rfl | rfl | rfl
          · exact one _ (by omega) (by omega)
          · exact c1
          · exact c2
          · exact c3
        · exact ⟨re, by decide, one⟩
      · exact ⟨re, by decide, one⟩
theorem idxFuncFrom_byte (p : Nat → Bool) (hp : ∀ r, 128 ≤ r → p r = false) (s : ByteArray) : ∀ (f pos : Nat), s.size ≤ pos + f → (0 ≤ idxFuncFrom p true s f pos ↔ ∃ j, pos ≤ j ∧ j < s.size ∧ p (byteN s j) = true)
  | 0, pos, h => by
    rw [idxFuncFrom]
    constructor
    · intro k; omega
    · rintro ⟨j, h1, h2, _⟩; omega
  | f + 1, pos, h => by
    rw [idxFuncFrom]
    by_cases hlt : pos < s.size
    · rw [if_pos hlt]
      by_cases hb : byteN s pos < 128
      · rw [decode_lo s pos hb]
        show 0 ≤ (if p (byteN s pos) = true then (pos : Int) else idxFuncFrom p true s f (pos + 1)) ↔ _
        by_cases hq : p (byteN s pos) = true
        · rw [if_pos hq]
          exact ⟨fun _ => ⟨pos, Nat.le_refl _, hlt, hq⟩, fun _ => by omega⟩
        · rw [if_neg hq, idxFuncFrom_byte p hp s f (pos + 1) (by omega)]
          constructor
          · rintro ⟨j, h1, h2, h3⟩; exact ⟨j, by omega, h2, h3⟩
          · rintro ⟨j, h1, h2, h3⟩
            have : j ≠ pos := fun e => hq (by rw [← e]; exact h3)
            exact ⟨j, by omega, h2, h3⟩
      · obtain ⟨r1, r2, r3⟩ := decode_hi s pos hlt (by omega)
        generalize Utf8.decode s pos = d at *
        rw [hp d.1 r1]
        show 0 ≤ (if false = true then (pos : Int) else idxFuncFrom p true s f (pos + d.2)) ↔ _
        rw [if_neg (by decide), idxFuncFrom_byte p hp s f (pos + d.2) (by omega)]
        constructor
        · rintro ⟨j, h1, h2, h3⟩; exact ⟨j, by omega, h2, h3⟩
        · rintro ⟨j, h1, h2, h3⟩
          by_cases hj : j < pos + d.2
          · have := hp _ (r3 j h1 hj).2
            rw [h3] at this; cases this
          · exact ⟨j, by omega, h2, h3⟩
    · rw [if_neg hlt]
      constructor
      · intro k; omega
      · rintro ⟨j, h1, h2, _⟩; omega
/-- What no name bears. -/
def badR (r : Nat) : Bool := decide (r < 32 ∨ r = 127 ∨ r = 47)
theorem badR_hi (r : Nat) (h : 128 ≤ r) : badR r = false := by unfold badR; exact decide_eq_false (by omega)
theorem okB_bad (c : UInt8) : okB c = !badR c.toNat := by
  unfold okB badR
  rw [Bool.eq_iff_iff]
  simp only [decide_eq_true_eq, Bool.not_eq_true', decide_eq_false_iff_not]
  rw [show (c ≠ 47) ↔ c.toNat ≠ 47 from ⟨fun h e => h (UInt8.toNat_inj.1 e), fun h e => h (by rw [e]; rfl)⟩]
  omega
theorem idx_bad (s : ByteArray) : decide (0 ≤ idxFunc badR true s) = !(s.data.toList.all okB) := by
  rw [Bool.eq_iff_iff, decide_eq_true_eq]
  unfold idxFunc
  rw [idxFuncFrom_byte badR badR_hi s s.size 0 (by omega)]
  have hsz : s.size = s.data.toList.length := by simp
  have hby : ∀ j (h : j < s.data.toList.length), byteN s j = (s.data.toList[j]).toNat := fun j h => by
    have h' : j < s.size := by omega
    unfold byteN
    congr 1
    show s.data[j]! = _
    have h2 : j < s.data.size := h'
    rw [getElem!_pos s.data j h2]
    simp
  constructor
  · rintro ⟨j, _, h2, h3⟩
    rw [Bool.not_eq_true', List.all_eq_false]
    have h2' : j < s.data.toList.length := by omega
    refine ⟨s.data.toList[j], List.getElem_mem h2', ?_⟩
    rw [okB_bad, ← hby j h2', h3]; decide
  · intro h
    rw [Bool.not_eq_true', List.all_eq_false] at h
    obtain ⟨x, hx, hx2⟩ := h
    obtain ⟨j, hj, e⟩ := List.getElem_of_mem hx
    refine ⟨j, Nat.zero_le _, by omega, ?_⟩
    rw [hby j hj, e]
    rw [okB_bad] at hx2
    simpa using hx2
end Go.Proofs.YthigepjddfdbmaaDoor
