/- Graphs of nodes that come from one another, as lists: what is reached, tips, bases. -/
import Derived.RowKit
namespace Go.Proofs.Ytfphkbbgbfnhaaa

abbrev Txt := List UInt8
structure Nd where
  name : Txt
  ps : List Nat
abbrev Gr := List Nd
def nmOf (g : Gr) (i : Nat) : Txt := (g.map (·.name)).getD i []
def psOf (g : Gr) (i : Nat) : List Nat := (g.map (·.ps)).getD i []
def idxN (g : Gr) (x : Txt) : Nat := (g.map (·.name)).idxOf x
/-- Names are unlike; parents stand ahead. -/
structure Good (g : Gr) : Prop where
  nodup : (g.map (·.name)).Nodup
  down : ∀ i, i < g.length → ∀ j ∈ psOf g i, j < i
theorem nm_at {g : Gr} {i : Nat} (h : i < g.length) : nmOf g i = g[i].name := by
  unfold nmOf; simp [List.getD, h]
theorem ps_at {g : Gr} {i : Nat} (h : i < g.length) : psOf g i = g[i].ps := by
  unfold psOf; simp [List.getD, h]
theorem ps_none {g : Gr} {i : Nat} (h : g.length ≤ i) : psOf g i = [] := by
  unfold psOf; simp [List.getD, h]
theorem idx_nm {g : Gr} (hg : Good g) {i : Nat} (h : i < g.length) : idxN g (nmOf g i) = i := by
  unfold idxN
  have h2 : i < (g.map (·.name)).length := by simpa using h
  have e : nmOf g i = (g.map (·.name))[i] := by rw [nm_at h]; simp
  rw [e]
  exact hg.nodup.idxOf_getElem i h2
theorem nm_idx {g : Gr} {x : Txt} (h : idxN g x < g.length) : nmOf g (idxN g x) = x := by
  unfold idxN at *
  have h2 : (g.map (·.name)).idxOf x < (g.map (·.name)).length := by simpa using h
  have := List.getElem_idxOf h2
  rw [nm_at h]
  exact (List.getElem_map (fun n : Nd => n.name) (h := h2)).symm.trans this
theorem nm_inj {g : Gr} (hg : Good g) {i j : Nat} (hi : i < g.length) (hj : j < g.length) (h : nmOf g i = nmOf g j) : i = j := by
  rw [← idx_nm hg hi, ← idx_nm hg hj, h]
theorem idx_lt_iff {g : Gr} {x : Txt} : idxN g x < g.length ↔ x ∈ g.map (·.name) := by
  unfold idxN
  have := List.idxOf_lt_length_iff (l := g.map (·.name)) (a := x)
  simpa using this
theorem down_lt {g : Gr} (hg : Good g) {i j : Nat} (h : j ∈ psOf g i) : j < i ∧ i < g.length := by
  by_cases hi : i < g.length
  · exact ⟨hg.down i hi j h, hi⟩
  · rw [ps_none (by omega)] at h; cases h
/-- j is reached from i. -/
inductive Rch (g : Gr) : Nat → Nat → Prop
  | refl (i : Nat) : Rch g i i
  | step {i j k : Nat} : j ∈ psOf g i → Rch g j k → Rch g i k
theorem Rch.trans {g : Gr} {i j k : Nat} (h : Rch g i j) (h2 : Rch g j k) : Rch g i k := by
  induction h with
  | refl _ => exact h2
  | step hp _ ih => exact .step hp (ih h2)
theorem Rch.le {g : Gr} (hg : Good g) {i j : Nat} (h : Rch g i j) : j ≤ i := by
  induction h with
  | refl _ => exact Nat.le_refl _
  | step hp _ ih => have := (down_lt hg hp).1; omega
theorem Rch.anti {g : Gr} (hg : Good g) {i j : Nat} (h : Rch g i j) (k : Rch g j i) : i = j := Nat.le_antisymm (k.le hg) (h.le hg)
/-- The last step. -/
theorem Rch.last {g : Gr} {i k : Nat} (h : Rch g i k) : i = k ∨ ∃ j, Rch g i j ∧ k ∈ psOf g j := by
  induction h with
  | refl i => exact Or.inl rfl
  | step hp hr ih =>
    rcases ih with rfl | ⟨m, h1, h2⟩
    · exact Or.inr ⟨_, .refl _, hp⟩
    · exact Or.inr ⟨m, .step hp h1, h2⟩
theorem Rch.snoc {g : Gr} {i j k : Nat} (h : Rch g i j) (hk : k ∈ psOf g j) : Rch g i k := h.trans (.step hk (.refl _))
/-- Reached from one of some. -/
def From (g : Gr) (b : Nat → Bool) (k : Nat) : Prop := ∃ s, b s = true ∧ Rch g s k
/-- .. by a step at least. -/
def Under (g : Gr) (b : Nat → Bool) (k : Nat) : Prop := ∃ j, From g b j ∧ k ∈ psOf g j
theorem from_iff {g : Gr} {b : Nat → Bool} {k : Nat} : From g b k ↔ b k = true ∨ Under g b k := by
  constructor
  · rintro ⟨s, h1, h2⟩
    rcases h2.last with rfl | ⟨j, h3, h4⟩
    · exact Or.inl h1
    · exact Or.inr ⟨j, ⟨s, h1, h3⟩, h4⟩
  · rintro (h | ⟨j, ⟨s, h1, h2⟩, h3⟩)
    · exact ⟨k, h, .refl _⟩
    · exact ⟨s, h1, h2.snoc h3⟩
/-- What a way through the nodes has marked, and what it has handed on. -/
structure Way where
  bh : Nat → Bool
  vs : List (Nat × Bool)
def way0 : Way := ⟨fun _ => false, []⟩
def wayStep (g : Gr) (b : Nat → Bool) (s : Way) (p : Nat) : Way :=
  if b p || s.bh p then ⟨fun k => s.bh k || (psOf g p).contains k, s.vs ++ [(p, !s.bh p)]⟩ else s
def wayOf (g : Gr) (b : Nat → Bool) (xs : List Nat) : Way := xs.foldl (wayStep g b) way0
theorem wayOf_snoc (g : Gr) (b : Nat → Bool) (xs : List Nat) (p : Nat) : wayOf g b (xs ++ [p]) = wayStep g b (wayOf g b xs) p := by unfold wayOf; rw [List.foldl_append]; rfl
theorem way_len (g : Gr) (b : Nat → Bool) (xs : List Nat) : (wayOf g b xs).vs.length ≤ xs.length := by
  suffices h : ∀ (xs : List Nat) (s : Way), (xs.foldl (wayStep g b) s).vs.length ≤ s.vs.length + xs.length by
    have := h xs way0
    simpa [wayOf, way0] using this
  intro xs
  induction xs with
  | nil => intro s; simp
  | cons x xs ih =>
    intro s
    have := ih (wayStep g b s x)
    rw [List.foldl_cons]
    have h2 : (wayStep g b s x).vs.length ≤ s.vs.length + 1 := by
      unfold wayStep; split <;> simp
    simp; omega
open Classical in
/-- All that is reached, the last added first, and whether it is a tip. -/
noncomputable def visN (g : Gr) (b : Nat → Bool) (k : Nat) : List (Nat × Bool) :=
  (((List.range k).reverse).filter (fun i => decide (From g b i))).map (fun i => (i, !decide (Under g b i)))
/-- The places from the last one down to n - k. -/
def downL (n k : Nat) : List Nat := ((List.range n).reverse).take k
theorem downL_at (n k : Nat) (h : k < n) : downL n (k + 1) = downL n k ++ [n - 1 - k] := by
  unfold downL
  rw [List.take_succ_eq_append_getElem (by simpa using h)]
  congr 2
  simp
open Classical in
theorem way_down (g : Gr) (hg : Good g) (b : Nat → Bool) (k : Nat) (hk : k ≤ g.length) :
    (∀ j, (wayOf g b (downL g.length k)).bh j = decide (∃ i, g.length - k ≤ i ∧ From g b i ∧ j ∈ psOf g i)) ∧
    (wayOf g b (downL g.length k)).vs = ((downL g.length k).filter (fun i => decide (From g b i))).map (fun i => (i, !decide (Under g b i))) := by
  induction k with
  | zero =>
    refine ⟨fun j => ?_, rfl⟩
    symm
    show decide _ = false
    apply decide_eq_false
    rintro ⟨i, h1, _, h3⟩
    have := (down_lt hg h3).2
    omega
  | succ k ih =>
    obtain ⟨h1, h2⟩ := ih (by omega)
    rw [downL_at _ _ (by omega), wayOf_snoc]
    generalize hW : wayOf g b (downL g.length k) = W at *
    have hp : g.length - 1 - k < g.length := by omega
    generalize hP : g.length - 1 - k = p at *
    have hb : W.bh p = decide (Under g b p) := by
      rw [h1]
      apply decide_eq_decide.2
      constructor
      · rintro ⟨i, _, a, c⟩; exact ⟨i, a, c⟩
      · rintro ⟨i, a, c⟩
        refine ⟨i, ?_, a, c⟩
        have := (down_lt hg c).1
        omega
    have hF : (b p || W.bh p) = decide (From g b p) := by
      rw [hb, Bool.eq_iff_iff]
      simp [from_iff]
    unfold wayStep
    rw [hF]
    by_cases hf : From g b p
    · rw [if_pos (decide_eq_true hf)]
      refine ⟨fun j => ?_, ?_⟩
      · show (W.bh j || (psOf g p).contains j) = _
        rw [h1, Bool.eq_iff_iff]
        simp only [Bool.or_eq_true, decide_eq_true_eq, List.contains_iff_mem]
        constructor
        · rintro (⟨i, a, c, d⟩ | h)
          · exact ⟨i, by omega, c, d⟩
          · exact ⟨p, by omega, hf, h⟩
        · rintro ⟨i, a, c, d⟩
          by_cases e : i = p
          · subst e; exact Or.inr d
          · exact Or.inl ⟨i, by omega, c, d⟩
      · show W.vs ++ [(p, !W.bh p)] = _
        rw [h2, List.filter_append, List.map_append, hb]
        simp [hf]
    · rw [if_neg (by simpa using hf)]
      refine ⟨fun j => ?_, ?_⟩
      · rw [h1]
        apply decide_eq_decide.2
        constructor
        · rintro ⟨i, a, c, d⟩; exact ⟨i, by omega, c, d⟩
        · rintro ⟨i, a, c, d⟩
          refine ⟨i, ?_, c, d⟩
          by_cases e : i = p
          · subst e; exact absurd c hf
          · omega
      · rw [h2, List.filter_append]
        simp [hf]
/-- The whole way. -/
theorem way_all (g : Gr) (hg : Good g) (b : Nat → Bool) : (wayOf g b ((List.range g.length).reverse)).vs = visN g b g.length := by
  have h := (way_down g hg b g.length (Nat.le_refl _)).2
  have e : downL g.length g.length = (List.range g.length).reverse := by unfold downL; rw [List.take_of_length_le (by simp)]
  rw [e] at h
  exact h
end Go.Proofs.Ytfphkbbgbfnhaaa
