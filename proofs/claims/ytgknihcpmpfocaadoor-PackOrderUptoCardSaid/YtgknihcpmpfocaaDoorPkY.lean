/- The law PackOnce. -/
import Derived.Test.YtgknihcpmpfocaaDoorPkX
namespace Go.Proofs.YtgknihcpmpfocaaDoor
open Go.RowKit Go.Maps
attribute [local simp high] id_size id_zero

theorem rwrong_any (n : Int) (w : World) : Calls Tryd.prog 10 #[.int .i64 n] w fun e w' => e = .returned (.int .i64 (if n < 0 ∨ 4194304 < n then 1 else 0)) ∧ w' = w := by
  obtain ⟨R, hR⟩ : ∃ R : Int, (if n < 0 ∨ 4194304 < n then 1 else 0) = R := ⟨_, rfl⟩
  rw [hR]
  have HR := Lib.hid hR
  clear hR
  by_cases h0 : n < 0
  · have y0 : decide (n < 0) = true := decide_eq_true h0
    have HR2 : Hid (R = 1) := Lib.hid (by rw [← HR.out, if_pos (Or.inl h0)])
    clear h0
    go_enter Tryd.func10, Tryd.ntmps10
    go_wp2_with fail
    go_ret
    exact ⟨by rw [HR2.out]; first | done | rfl, rfl⟩
  · have y0 : decide (n < 0) = false := decide_eq_false h0
    by_cases h1 : 4194304 < n
    · have y1 : decide (n > 4194304) = true := decide_eq_true h1
      have HR2 : Hid (R = 1) := Lib.hid (by rw [← HR.out, if_pos (Or.inr h1)])
      clear h0 h1
      go_enter Tryd.func10, Tryd.ntmps10
      go_wp2_with fail
      go_ret
      exact ⟨by rw [HR2.out]; first | done | rfl, rfl⟩
    · have y1 : decide (n > 4194304) = false := decide_eq_false h1
      have HR2 : Hid (R = 0) := Lib.hid (by rw [← HR.out, if_neg (by rintro (h | h); exact h0 h; exact h1 h)])
      clear h0 h1
      go_enter Tryd.func10, Tryd.ntmps10
      go_wp2_with fail
      go_ret
      exact ⟨by rw [HR2.out]; first | done | rfl, rfl⟩
theorem add_any {w0 w : World} {F T : Nat → Prop} {bp bf : Nat} {s : Fs} {x : Nm} {all : List (List UInt8)} (g : PkG w0 F T w bp bf s x all) (hE : Env w) (hs : s.steps ≤ 16777214)
    (S : Nat → Prop) (v : Value) (d : List UInt8) (hd : BytesC S w v d) (hS : ∀ k, S k → k < w.heap.size) :
    Calls Tryd.prog 15 #[.pointer (some ⟨bp, 0, none⟩), v] w (AddP w0 F T w bp bf x (addR s x all d).1 (addR s x all d).2.1 (addR s x all d).2.2.1 (addR s x all d).2.2.2) := by
  by_cases hl : d.length ≤ 524288
  · exact add_short g hE hs S v d hd hS hl
  · have e : addR s x all d = (s, all, zeros, 2) := by unfold addR; rw [if_pos (by omega)]
    rw [e]
    exact add_long g S v d hd (by omega)
/-- A file system with one file. -/
def OneF (s : Fs) : Prop := s.now = [([112], 0)]
theorem OneF.used {s : Fs} (h : OneF s) {D : List UInt8} (hr : readS s [112] = (D, 0)) : used s = D.length := by
  unfold readS at hr
  unfold Go.Proofs.YtgknihcpmpfocaaDoor.used
  rw [h] at hr ⊢
  have hf : fnd [(([112] : Nm), 0)] [112] = some 0 := by unfold fnd; rw [if_pos rfl]
  rw [hf] at hr
  injection hr with hr _
  rw [← hr]
  rfl
theorem OneF.add {s : Fs} (h : OneF s) (all : List (List UInt8)) (d : List UInt8) : OneF (addR s [112] all d).1 ∧ (addR s [112] all d).1.steps ≤ s.steps + 1 := by
  have hf : fnd s.now [112] = some 0 := by rw [h]; unfold fnd; rw [if_pos rfl]
  have ha : ∀ l, OneF (appendS s [112] l).1 ∧ (appendS s [112] l).1.steps ≤ s.steps + 1 := by
    intro l
    unfold appendS
    rw [hf]
    dsimp only
    split
    · exact ⟨h, Nat.le_succ _⟩
    · split
      · exact ⟨h, Nat.le_succ _⟩
      · exact ⟨h, Nat.le_refl _⟩
  unfold addR
  split
  · exact ⟨h, Nat.le_succ _⟩
  · split
    · split
      · exact ⟨h, Nat.le_succ _⟩
      · exact ⟨h, Nat.le_succ _⟩
    · split
      · exact ha _
      · exact ⟨h, Nat.le_succ _⟩
theorem new_one (n : Nat) : (createS (newS n) [112]).2 = 0 ∧ OneF (createS (newS n) [112]).1 ∧ (createS (newS n) [112]).1.steps = 1 := by
  have h : createS (newS n) [112] = (chg (tick (newF (newS n))) ⟨[], [112], some 0⟩, 0) := by
    unfold createS
    rw [if_neg (by decide), if_neg (by simp [newS, fnd]), if_neg (by simp [newS])]
    rfl
  rw [h]
  exact ⟨rfl, rfl, rfl⟩
/-- What was refused changes nothing; what was not is there. -/
theorem addR_bad {s : Fs} {x : Nm} {all : List (List UInt8)} {d : List UInt8} {s' : Fs} {all' : List (List UInt8)} {X : List UInt8} {c : Int} (h : addR s x all d = (s', all', X, c)) (hc : c ≠ 0) : all' = all ∧ X = zeros := by
  unfold addR at h
  split at h
  · simp only [Prod.mk.injEq] at h; exact ⟨h.2.1.symm, h.2.2.1.symm⟩
  · split at h
    · split at h
      · simp only [Prod.mk.injEq] at h; exact absurd h.2.2.2.symm hc
      · simp only [Prod.mk.injEq] at h; exact ⟨h.2.1.symm, h.2.2.1.symm⟩
    · split at h
      · simp only [Prod.mk.injEq] at h; exact absurd h.2.2.2.symm hc
      · simp only [Prod.mk.injEq] at h; exact ⟨h.2.1.symm, h.2.2.1.symm⟩
theorem addR_good {s : Fs} {x : Nm} {all : List (List UInt8)} {d : List UInt8} {s' : Fs} {all' : List (List UInt8)} {X : List UInt8} (h : addR s x all d = (s', all', X, 0)) : X = sumN d ∧ firstR all' X = some d ∧ addR s' x all' d = (s', all', X, 0) := by
  have key : X = sumN d ∧ firstR all' X = some d ∧ d.length ≤ 524288 := by
    unfold addR at h
    split at h
    · simp only [Prod.mk.injEq] at h; exact absurd h.2.2.2 (by decide)
    · rename_i hl
      split at h
      · rename_i r hr
        split at h
        · rename_i e
          simp only [Prod.mk.injEq] at h
          obtain ⟨_, rfl, rfl, _⟩ := h
          exact ⟨rfl, by rw [hr, e], by omega⟩
        · simp only [Prod.mk.injEq] at h; exact absurd h.2.2.2 (by decide)
      · rename_i hr
        split at h
        · simp only [Prod.mk.injEq] at h
          obtain ⟨_, rfl, rfl, _⟩ := h
          refine ⟨rfl, ?_, by omega⟩
          rw [firstR_snoc, hr]
          simp
        · rename_i hne
          simp only [Prod.mk.injEq] at h; exact absurd h.2.2.2 hne
  obtain ⟨h1, h2, h3⟩ := key
  refine ⟨h1, h2, ?_⟩
  unfold addR
  rw [if_neg (by omega), ← h1, h2]
  dsimp only
  rw [if_pos rfl]
end Go.Proofs.YtgknihcpmpfocaaDoor
