/- Times: of one path; what stays as a side has it. -/
import Derived.Test.YtjlpdoppnhcjoaaDoorJnU
namespace Go.Proofs.YtjlpdoppnhcjoaaDoor
open Go.RowKit Go.Lib
theorem canon_two (b : Nat) : canonB (canonB b) = canonB b := by
  unfold canonB
  cases h : nanB b
  · simp [h]
  · rw [if_pos rfl, if_pos (by decide)]
theorem key_canon (b : Nat) : keyN (canonB b) = keyN b := by unfold keyN; rw [canon_two]
theorem keyX_inj {x y : Nat} (hx : x < 18446744073709551616) (hy : y < 18446744073709551616) (h : keyX x = keyX y) : x = y := by
  unfold keyX topB at h
  by_cases h1 : 9223372036854775808 ≤ x <;> by_cases h2 : 9223372036854775808 ≤ y <;> simp [h1, h2] at h <;> omega
theorem key_iff {a b : Nat} (ha : a < 18446744073709551616) (hb : b < 18446744073709551616) : keyN a = keyN b ↔ canonB a = canonB b :=
  ⟨fun h => keyX_inj (canonB_lt ha) (canonB_lt hb) h, fun h => by unfold keyN; rw [h]⟩
theorem key_least {f : Nat} (hf : f < 18446744073709551616) : keyN 18442240474082181120 ≤ keyN f := by
  have e : keyN 18442240474082181120 = 4503599627370495 := by decide
  rw [e]
  unfold keyN canonB
  cases h : nanB f
  · rw [if_neg (by decide)]
    rw [nanB_eq f hf] at h
    have h2 := of_decide_eq_false h
    unfold keyX topB
    by_cases h1 : 9223372036854775808 ≤ f
    · rw [decide_eq_true h1, if_pos rfl]; omega
    · rw [decide_eq_false h1, if_neg (by decide)]; omega
  · rw [if_pos rfl]; decide
/-- The later of two times. -/
theorem lat_two {a b : Nat} (ha : a < 18446744073709551616) (hb : b < 18446744073709551616) : (canonB (latL [a, b]) = canonB a ∨ canonB (latL [a, b]) = canonB b) ∧ keyN a ≤ keyN (latL [a, b]) ∧ keyN b ≤ keyN (latL [a, b]) := by
  have k0 := key_least ha
  have k1 := key_least hb
  have e : latL [a, b] = latStep (latStep 18442240474082181120 a) b := rfl
  rw [e]
  have h1 : canonB (latStep 18442240474082181120 a) = canonB a ∧ keyN (latStep 18442240474082181120 a) = keyN a := by
    unfold latStep
    split
    · exact ⟨rfl, rfl⟩
    · have hk : keyN 18442240474082181120 = keyN a := by omega
      exact ⟨(key_iff (by omega) ha).1 hk, hk⟩
  generalize latStep 18442240474082181120 a = x at *
  unfold latStep
  split
  · exact ⟨Or.inr rfl, by omega, Nat.le_refl _⟩
  · exact ⟨Or.inl h1.1, by omega, by omega⟩
/-- What the law asks of a time. -/
def timesB (s0 s1 s2 g : Nat) : Bool :=
  if canonB s1 = canonB s0 then decide (canonB g = canonB s2)
  else if canonB s2 = canonB s0 then decide (canonB g = canonB s1)
  else (decide (canonB g = canonB s1) || decide (canonB g = canonB s2)) && !beforeX (canonB g) (canonB s1) && !beforeX (canonB g) (canonB s2)
theorem timeN_lt {has : Nat → Bool} {st : Nat → Nat} (h : ∀ i, i < 3 → st i < 18446744073709551616) : timeN has st < 18446744073709551616 := by
  have h1 := h 1 (by omega)
  have h2 := h 2 (by omega)
  unfold timeN
  repeat' split
  all_goals first | exact canonB_lt h1 | exact canonB_lt h2 | skip
  refine canonB_lt (latL_lt _ (fun f hf => ?_))
  simp at hf
  rcases hf with rfl | rfl <;> assumption
theorem times_true {st : Nat → Nat} (h : ∀ i, i < 3 → st i < 18446744073709551616) : timesB (st 0) (st 1) (st 2) (timeN (fun _ => true) st) = true := by
  have h0 := h 0 (by omega)
  have h1 := h 1 (by omega)
  have h2 := h 2 (by omega)
  have e : canonB (timeN (fun _ => true) st) = timeN (fun _ => true) st := by
    unfold timeN
    repeat' split
    all_goals exact canon_two _
  have ht : timeN (fun _ => true) st = if keyN (st 0) = keyN (st 1) then canonB (st 2) else if keyN (st 0) = keyN (st 2) then canonB (st 1) else canonB (latL [st 1, st 2]) := by unfold timeN; simp
  unfold timesB
  rw [e]
  by_cases a1 : canonB (st 1) = canonB (st 0)
  · rw [if_pos a1, ht, if_pos ((key_iff h0 h1).2 a1.symm)]; exact decide_eq_true rfl
  · rw [if_neg a1]
    by_cases a2 : canonB (st 2) = canonB (st 0)
    · rw [if_pos a2, ht, if_neg (fun x => a1 ((key_iff h0 h1).1 x).symm), if_pos ((key_iff h0 h2).2 a2.symm)]; exact decide_eq_true rfl
    · rw [if_neg a2, ht, if_neg (fun x => a1 ((key_iff h0 h1).1 x).symm), if_neg (fun x => a2 ((key_iff h0 h2).1 x).symm)]
      obtain ⟨l1, l2, l3⟩ := lat_two h1 h2
      have hl : latL [st 1, st 2] < 18446744073709551616 := latL_lt _ (fun f hf => by
        simp at hf
        rcases hf with rfl | rfl <;> assumption)
      rw [before_iff (canonB_lt hl) (canonB_lt h1), before_iff (canonB_lt hl) (canonB_lt h2)]
      have b1 : ¬ keyX (canonB (latL [st 1, st 2])) < keyX (canonB (st 1)) := Nat.not_lt.2 l2
      have b2 : ¬ keyX (canonB (latL [st 1, st 2])) < keyX (canonB (st 2)) := Nat.not_lt.2 l3
      rw [decide_eq_false b1, decide_eq_false b2]
      rcases l1 with l1 | l1
      · rw [decide_eq_true l1]; rfl
      · rw [decide_eq_true l1, Bool.or_true]; rfl
/-- The three snapshots of the law of times. -/
def oneL (f : Nat → UInt8) (st : Nat → Nat) (i : Nat) : List FileN := [⟨[112], f, st i⟩]
theorem one_merge (T : SrcN) (f : Nat → UInt8) (st : Nat → Nat) : ∃ m : OutM, mergeT T (oneL f st) = (0, [m]) ∧ m.1.kind = 1 ∧ m.1.id = f ∧ m.1.stamp = timeN (fun _ => true) st := by
  have hz : ∀ j, j < 3 → filesN (oneL f st j) = 0 := fun j _ => by kernel_rfl
  have hc : curAt (oneL f st) 3 = some [112] := by kernel_rfl
  have hr : curAt (restK (oneL f st) [112] 3) 3 = none := by kernel_rfl
  have hh : (outK (oneL f st) [112] 3).has 1 = true := by kernel_rfl
  have hd : decN (outK (oneL f st) [112] 3) = 0 := by
    have e : alikeB (outK (oneL f st) [112] 3) 1 2 = true := by
      have h1 : (outK (oneL f st) [112] 3).ids 1 = f := rfl
      have h2 : (outK (oneL f st) [112] 3).ids 2 = f := rfl
      have h3 : (outK (oneL f st) [112] 3).has 2 = true := by kernel_rfl
      unfold alikeB
      rw [h1, h2, hh, h3, decide_eq_true rfl]; rfl
    unfold decN
    rw [e]; rfl
  have hD : decR T (outK (oneL f st) [112] 3) (stK (oneL f st) [112] 3) = (0, some ({ timed (outK (oneL f st) [112] 3) (stK (oneL f st) [112] 3) with kind := 1, id := (outK (oneL f st) [112] 3).ids 1 }, [])) := by
    unfold decR; rw [if_pos hd, if_pos hh]
  have hJ : joinG T (totN (oneL f st)) (oneL f st) = (0, [({ timed (outK (oneL f st) [112] 3) (stK (oneL f st) [112] 3) with kind := 1, id := (outK (oneL f st) [112] 3).ids 1 }, [])]) := by
    have e : totN (oneL f st) = 2 + 1 := rfl
    rw [e, joinG_some hc, hD, stepG_go rfl, joinG_none hr]; rfl
  refine ⟨({ timed (outK (oneL f st) [112] 3) (stK (oneL f st) [112] 3) with kind := 1, id := (outK (oneL f st) [112] 3).ids 1 }, []), ?_, rfl, rfl, ?_⟩
  · rw [mergeT_go hz, hJ, if_neg (by simp)]; rfl
  · show timeN (outK (oneL f st) [112] 3).has (stK (oneL f st) [112] 3) = _
    have k0 : (outK (oneL f st) [112] 3).has 0 = true := by kernel_rfl
    have k2 : (outK (oneL f st) [112] 3).has 2 = true := by kernel_rfl
    have s0 : stK (oneL f st) [112] 3 0 = st 0 := by kernel_rfl
    have s1 : stK (oneL f st) [112] 3 1 = st 1 := by kernel_rfl
    have s2 : stK (oneL f st) [112] 3 2 = st 2 := by kernel_rfl
    unfold timeN
    rw [k0, hh, k2, s0, s1, s2]
end Go.Proofs.YtjlpdoppnhcjoaaDoor
