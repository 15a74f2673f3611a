/- The walks of the reference's Name, Check, Under. -/
import Derived.Test.YthigepjddfdbmaaDoorPathM
namespace Go.Proofs.YthigepjddfdbmaaDoor
open Go.RowKit Go.Lib

theorem nameB_bad {s : List UInt8} {k : Nat} (hk : k < s.length) (h : okB (s.getD k 0) = false) : nameB s = false := by
  have : s.all okB = false := by
    rw [List.all_eq_false]
    refine ⟨s[k], List.getElem_mem hk, ?_⟩
    rw [show s.getD k 0 = s[k] by simp [List.getD, List.getElem?_eq_getElem hk]] at h
    rw [h]; decide
  unfold nameB; rw [this, Bool.and_false]
theorem nameB_all {s : List UInt8} (h : 1 ≤ s.length ∧ s.length ≤ 64 ∧ s ≠ [46] ∧ s ≠ [46, 46]) (h2 : ∀ j, j < s.length → okB (s.getD j 0) = true) : nameB s = true := by
  rw [nameB_yes h, List.all_eq_true]
  intro x hx
  obtain ⟨j, hj, rfl⟩ := List.getElem_of_mem hx
  have := h2 j hj
  rwa [show s.getD j 0 = s[j] by simp [List.getD, List.getElem?_eq_getElem hj]] at this
theorem okB_toNat (c : UInt8) : okB c = decide (32 ≤ c.toNat ∧ c.toNat ≠ 127 ∧ c.toNat ≠ 47) := by
  unfold okB
  rw [Bool.eq_iff_iff]
  simp only [decide_eq_true_eq]
  rw [show (c ≠ 47) ↔ c.toNat ≠ 47 from ⟨fun h e => h (UInt8.toNat_inj.1 e), fun h e => h (by rw [e]; rfl)⟩]
end Go.Proofs.YthigepjddfdbmaaDoor
