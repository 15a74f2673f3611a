/- What the file system's calls make of one file's bytes (mathematics). -/
import Derived.Test.YtgknihcpmpfocaaDoorVfKP
namespace Go.Proofs.YtgknihcpmpfocaaDoor
theorem readS_ix {s : Fs} (ok : FsOk s) {x : Nm} {D : List UInt8} (h : readS s x = (D, 0)) : ∃ i, fnd s.now x = some i ∧ i < s.files.length ∧ (s.files.getD i noFi).data = D := by
  unfold readS at h
  cases hf : fnd s.now x with
  | none => rw [hf] at h; simp at h
  | some i =>
    rw [hf] at h
    injection h with h1 _
    exact ⟨i, rfl, ok.nowOk.lt _ (fnd_mem hf), h1⟩
theorem readS_len {s : Fs} (ok : FsOk s) {x : Nm} {D : List UInt8} (h : readS s x = (D, 0)) : D.length ≤ 4194304 := by
  obtain ⟨i, _, h2, h3⟩ := readS_ix ok h
  rw [← h3]
  exact (ok.dat _ (getD_mem h2)).2
theorem put_read {s : Fs} {x : Nm} {i : Nat} (hf : fnd s.now x = some i) (hi : i < s.files.length) (f : Fi) : readS (putF (tick s) i f) x = (f.data, 0) := by
  unfold readS
  show (match fnd s.now x with
    | none => _
    | some i => _) = _
  rw [hf]
  show (((s.files.set i f).getD i noFi).data, (0 : Int)) = _
  rw [List.getD_eq_getElem?_getD, List.getElem?_set_self hi]
  rfl
theorem appendS_read {s : Fs} (ok : FsOk s) {x : Nm} {D : List UInt8} (h : readS s x = (D, 0)) (l : List UInt8) :
    ((appendS s x l).2 = 0 ∧ readS (appendS s x l).1 x = (D ++ l, 0) ∧ (appendS s x l).1.steps = s.steps + 1) ∨ ((appendS s x l).2 ≠ 0 ∧ (appendS s x l).1 = s) := by
  obtain ⟨i, h1, h2, h3⟩ := readS_ix ok h
  unfold appendS
  rw [h1]
  dsimp only
  split
  · exact Or.inr ⟨by simp, rfl⟩
  · split
    · exact Or.inr ⟨by simp, rfl⟩
    · refine Or.inl ⟨rfl, ?_, rfl⟩
      rw [put_read h1 h2, h3]
theorem syncS_read {s : Fs} (ok : FsOk s) {x : Nm} {D : List UInt8} (h : readS s x = (D, 0)) : readS (syncS s x).1 x = (D, 0) ∧ (syncS s x).1.steps ≤ s.steps + 1 := by
  obtain ⟨i, h1, h2, h3⟩ := readS_ix ok h
  unfold syncS
  rw [h1]
  dsimp only
  split
  · exact ⟨h, Nat.le_succ _⟩
  · rw [put_read h1 h2, h3]
    exact ⟨rfl, Nat.le_refl _⟩
theorem cutS_read {s : Fs} (ok : FsOk s) {x : Nm} {D : List UInt8} (h : readS s x = (D, 0)) {n : Nat} (hn : n ≤ D.length) :
    ((cutS s x (n : Int)).2 = 0 ∧ readS (cutS s x (n : Int)).1 x = (D.take n, 0) ∧ (cutS s x (n : Int)).1.steps = s.steps + 1) ∨ ((cutS s x (n : Int)).2 ≠ 0 ∧ (cutS s x (n : Int)).1 = s) := by
  obtain ⟨i, h1, h2, h3⟩ := readS_ix ok h
  unfold cutS
  rw [h1]
  dsimp only
  rw [h3, if_neg (by omega)]
  split
  · exact Or.inr ⟨by simp, rfl⟩
  · refine Or.inl ⟨rfl, ?_, rfl⟩
    rw [put_read h1 h2]
    rfl
theorem createS_read {s : Fs} (ok : FsOk s) (x : Nm) : ((createS s x).2 = 0 ∧ readS (createS s x).1 x = ([], 0) ∧ (createS s x).1.steps = s.steps + 1) ∨ ((createS s x).2 ≠ 0 ∧ (createS s x).1 = s) := by
  unfold createS
  split
  · rename_i h
    exact Or.inr ⟨h, rfl⟩
  · split
    · exact Or.inr ⟨fun e => absurd (show (5 : Int) = 0 from e) (by decide), rfl⟩
    · split
      · exact Or.inr ⟨fun e => absurd (show (190 : Int) = 0 from e) (by decide), rfl⟩
      · refine Or.inl ⟨rfl, ?_, rfl⟩
        unfold readS
        have e : fnd (chg (tick (newF s)) ⟨[], x, some s.files.length⟩).now x = some s.files.length := by
          show fnd (doA (tick (newF s)).now ⟨[], x, some s.files.length⟩) x = some s.files.length
          rw [show (tick (newF s)).now = s.now from rfl, fnd_doA ok.nowOk.rise]
          simp
        rw [e]
        show (((s.files ++ [noFi]).getD s.files.length noFi).data, (0 : Int)) = _
        simp [noFi]
end Go.Proofs.YtgknihcpmpfocaaDoor
