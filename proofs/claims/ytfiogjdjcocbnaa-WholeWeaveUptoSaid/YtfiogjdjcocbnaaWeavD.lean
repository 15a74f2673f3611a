/- Lines that end, conflicts and marks, what stands fast in a merge, how long its text is. -/
import Derived.Test.YtfiogjdjcocbnaaWeavC
namespace Go.Proofs.Ytfiogjdjcocbnaa

def EndsB (x : Line) : Prop := x.getLast? = some 10
/-- Lines, none empty, each of which ends, but perhaps the last. -/
structure Lined (l : List Line) : Prop where
  ne : ∀ x ∈ l, x ≠ []
  ends : ∀ x r y, l = r ++ x :: y → y ≠ [] → EndsB x
/-- Lines that all end. -/
def AllEnd (l : List Line) : Prop := ∀ x ∈ l, EndsB x
theorem EndsB.ne {x : Line} (h : EndsB x) : x ≠ [] := by rintro rfl; cases h
theorem AllEnd.lined {l : List Line} (h : AllEnd l) : Lined l := ⟨fun x hx => (h x hx).ne, fun x r y e _ => h x (by rw [e]; simp)⟩
theorem Lined.append {l r : List Line} (h1 : AllEnd l) (h2 : Lined r) : Lined (l ++ r) := by
  refine ⟨fun x hx => ?_, fun x u y e hy => ?_⟩
  · rcases List.mem_append.1 hx with hx | hx
    · exact (h1 x hx).ne
    · exact h2.ne x hx
  · rcases List.append_eq_append_iff.1 e with ⟨c, e1, e2⟩ | ⟨c, e1, e2⟩
    · exact h2.ends x c y e2 hy
    · cases c with
      | nil => exact h2.ends x [] y (by simpa using e2.symm) hy
      | cons z c =>
        injection e2 with e2 _
        subst e2
        exact h1 x (by rw [e1]; simp)
theorem Lined.drop {l : List Line} (h : Lined l) (n : Nat) : Lined (l.drop n) := by
  refine ⟨fun x hx => h.ne x (List.mem_of_mem_drop hx), fun x r y e hy => h.ends x (l.take n ++ r) y ?_ hy⟩
  rw [List.append_assoc, ← e, List.take_append_drop]
theorem Lined.ahead {l r : List Line} (h : Lined (l ++ r)) (hr : r ≠ []) : AllEnd l := by
  intro x hx
  obtain ⟨s, t, e⟩ := List.append_of_mem hx
  exact h.ends x s (t ++ r) (by rw [e]; simp) (by simp [hr])
theorem lined_nil : Lined [] := ⟨fun _ h => (by cases h), fun x r y e _ => by simp at e⟩
theorem closed_all {l : List Line} (h : Lined l) : AllEnd (closedN l) := by
  unfold closedN
  cases e : l.getLast? with
  | none =>
    rw [List.getLast?_eq_none_iff] at e
    subst e
    intro x hx; cases hx
  | some z =>
    have hne : l ≠ [] := by rintro rfl; cases e
    rw [List.getLast?_eq_some_getLast hne] at e
    injection e with e
    have e2 : l = l.dropLast ++ [z] := by rw [← e, List.dropLast_concat_getLast]
    have hd : AllEnd l.dropLast := by rw [e2] at h; exact h.ahead (by simp)
    show AllEnd (if z.getLast? = some 10 then l else l.dropLast ++ [z ++ [10]])
    split
    · rename_i hz
      intro x hx
      rw [e2] at hx
      rcases List.mem_append.1 hx with hx | hx
      · exact hd x hx
      · rw [List.mem_singleton] at hx; subst hx; exact hz
    · intro x hx
      rcases List.mem_append.1 hx with hx | hx
      · exact hd x hx
      · rw [List.mem_singleton] at hx; subst hx; unfold EndsB; simp
theorem AllEnd.app {l r : List Line} (h1 : AllEnd l) (h2 : AllEnd r) : AllEnd (l ++ r) := fun x hx => (List.mem_append.1 hx).elim (h1 x) (h2 x)
theorem AllEnd.one {x : Line} (h : EndsB x) : AllEnd [x] := fun y hy => by rw [List.mem_singleton] at hy; rw [hy]; exact h
theorem text1_cases (head foot : Line) (p : PartN Line) : text1 head foot p = p.ours ∨ text1 head foot p = p.theirs ∨ (text1 head foot p =
    [head] ++ closedN p.ours ++ [[124, 124, 124, 124, 124, 124, 124, 32, 98, 97, 115, 101, 10]] ++ closedN p.base ++ [[61, 61, 61, 61, 61, 61, 61, 10]] ++ closedN p.theirs ++ [foot] ∧ calm1 p = false) := by
  unfold text1
  split
  · exact Or.inl rfl
  · rename_i h1
    split
    · exact Or.inr (Or.inl rfl)
    · rename_i h2
      refine Or.inr (Or.inr ⟨rfl, ?_⟩)
      unfold calm1
      exact decide_eq_false (fun h => by rcases h with h | h | h | h; exact h1 (Or.inl h); exact h1 (Or.inr (Or.inl h)); exact h1 (Or.inr (Or.inr h)); exact h2 h)
theorem ends_base : EndsB [124, 124, 124, 124, 124, 124, 124, 32, 98, 97, 115, 101, 10] := rfl
theorem ends_mid : EndsB [61, 61, 61, 61, 61, 61, 61, 10] := rfl
theorem text1_lined {head foot : Line} (hh : EndsB head) (hf : EndsB foot) {a b c : List Line} (ha : Lined a) (hb : Lined b) (hc : Lined c) : Lined (text1 head foot (mkN a b c)) := by
  rcases text1_cases head foot (mkN a b c) with e | e | ⟨e, _⟩
  · rw [e]; exact hb
  · rw [e]; exact hc
  · rw [e]
    exact ((((((AllEnd.one hh).app (closed_all hb)).app (AllEnd.one ends_base)).app (closed_all ha)).app (AllEnd.one ends_mid)).app (closed_all hc)).app (AllEnd.one hf) |>.lined
theorem text1_all {head foot : Line} (hh : EndsB head) (hf : EndsB foot) {a b c : List Line} (ha : AllEnd a) (hb : AllEnd b) (hc : AllEnd c) : AllEnd (text1 head foot (mkN a b c)) := by
  rcases text1_cases head foot (mkN a b c) with e | e | ⟨e, _⟩
  · rw [e]; exact hb
  · rw [e]; exact hc
  · rw [e]
    exact ((((((AllEnd.one hh).app (closed_all hb.lined)).app (AllEnd.one ends_base)).app (closed_all ha.lined)).app (AllEnd.one ends_mid)).app (closed_all hc.lined)).app (AllEnd.one hf)
theorem segs_lined {head foot : Line} (hh : EndsB head) (hf : EndsB foot) {a b c : List Line} (ha : Lined a) (hb : Lined b) (hc : Lined c) (F : List (Nat × Nat × Nat)) : ∀ i j k : Nat, FastOk a b c i j k F →
    Lined (textN head foot (segsN (a.drop i) (b.drop j) (c.drop k) i j k F)) := by
  induction F with
  | nil =>
    intro i j k _
    rw [segsN, text_cons]
    unfold textN
    rw [List.flatMap_nil, List.append_nil]
    exact text1_lined hh hf (ha.drop i) (hb.drop j) (hc.drop k)
  | cons f F ih =>
    intro i j k ⟨h1, h2, h3, h4, h5, h6, h7, h8, h9⟩
    obtain ⟨x, hx⟩ : ∃ x, a[f.1]? = some x := ⟨_, List.getElem?_eq_getElem h4⟩
    have da := drop_one hx
    have db := drop_one (h7.symm.trans hx)
    have dc := drop_one (h8.symm.trans hx)
    have split3 : ∀ {l : List Line} {n m : Nat}, n ≤ m → l.drop n = (l.drop n).take (m - n) ++ l.drop m := fun {l n m} h => by
      conv => lhs; rw [← List.take_append_drop (m - n) (l.drop n), List.drop_drop, show n + (m - n) = m from by omega]
    have ea := split3 (l := a) h1
    have eb := split3 (l := b) h2
    have ec := split3 (l := c) h3
    have la := ha.drop i
    have lb := hb.drop j
    have lc := hc.drop k
    rw [ea, da] at la
    rw [eb, db] at lb
    rw [ec, dc] at lc
    have A1 := la.ahead (by simp)
    have B1 := lb.ahead (by simp)
    have C1 := lc.ahead (by simp)
    rw [segsN, List.drop_drop, List.drop_drop, List.drop_drop, show i + (f.1 - i) = f.1 from by omega, show j + (f.2.1 - j) = f.2.1 from by omega, show k + (f.2.2 - k) = f.2.2 from by omega, List.drop_drop, List.drop_drop, List.drop_drop, text_cons, text_cons, da, db, dc]
    have t1 := text1_all hh hf A1 B1 C1
    have e1 : text1 head foot (mkN ((x :: a.drop (f.1 + 1)).take 1) ((x :: b.drop (f.2.1 + 1)).take 1) ((x :: c.drop (f.2.2 + 1)).take 1)) = [x] := (mk_ours head foot [x] [x]).1
    rw [e1]
    have hr := ih _ _ _ h9
    by_cases hE : a.drop (f.1 + 1) = [] ∧ b.drop (f.2.1 + 1) = [] ∧ c.drop (f.2.2 + 1) = []
    · obtain ⟨n1, n2, n3⟩ := hE
      have hF : F = [] := by
        cases F with
        | nil => rfl
        | cons g F =>
          exfalso
          obtain ⟨g1, _, _, g4, _⟩ := h9
          rw [List.drop_eq_nil_iff] at n1
          omega
      rw [hF, n1, n2, n3]
      have e2 : textN head foot (segsN [] [] [] (f.1 + 1) (f.2.1 + 1) (f.2.2 + 1) []) = [] := by
        rw [segsN, text_cons, (mk_ours head foot [] []).1]; rfl
      rw [e2, List.append_nil]
      refine Lined.append t1 ⟨fun y hy => ?_, fun y r z e hz => ?_⟩
      · rw [List.mem_singleton] at hy; subst hy; exact la.ne _ (by simp)
      · have := congrArg List.length e
        have hzl := List.length_pos_iff.2 hz
        simp at this; omega
    · have hxE : EndsB x := by
        by_cases n1 : a.drop (f.1 + 1) = []
        · by_cases n2 : b.drop (f.2.1 + 1) = []
          · exact lc.ends x _ _ rfl (fun n3 => hE ⟨n1, n2, n3⟩)
          · exact lb.ends x _ _ rfl n2
        · exact la.ends x _ _ rfl n1
      exact Lined.append t1 (Lined.append (AllEnd.one hxE) hr)
theorem merge_lined {head foot : Line} (hh : EndsB head) (hf : EndsB foot) {a b c : List Line} (ha : Lined a) (hb : Lined b) (hc : Lined c) : Lined (textN head foot (mergeN a b c)) := by
  rw [merge_text]
  exact segs_lined hh hf ha hb hc _ 0 0 0 (fast_ok a b c _ _ 0 0 0 (pairs_ok a b) (pairs_ok a c))
/-- How many conflicts parts have. -/
def clashN {α : Type} (l : List (PartN α)) : Nat := l.countP fun p => p.kind == 4
theorem kind_le {α : Type} [DecidableEq α] (a b c : List α) : kindN a b c = 0 ∨ kindN a b c = 1 ∨ kindN a b c = 2 ∨ kindN a b c = 3 ∨ kindN a b c = 4 := by
  unfold kindN; repeat' split
  all_goals simp
theorem good_all {α : Type} [DecidableEq α] {l : List (PartN α)} (h : Good l) : ∀ p ∈ l, GoodPart p := by
  induction l with
  | nil => intro p hp; cases hp
  | cons q r ih =>
    intro p hp
    rcases List.mem_cons.1 hp with rfl | hp
    · exact h.1
    · exact ih h.2.2 p hp
theorem good_calm {α : Type} [DecidableEq α] {l : List (PartN α)} (h : ∀ p ∈ l, GoodPart p) : calmN l = decide (clashN l = 0) := by
  induction l with
  | nil => rfl
  | cons p r ih =>
    rw [calm_cons, ih (fun q hq => h q (List.mem_cons_of_mem _ hq))]
    unfold clashN
    rw [List.countP_cons]
    have hk := kind_le p.base p.ours p.theirs
    rw [← (h p List.mem_cons_self).1] at hk
    unfold calm1
    rcases hk with e | e | e | e | e <;> rw [e] <;> simp
theorem clash_marks (head foot : Line) (l : List (PartN Line)) : clashN l ≤ (textN head foot l).count [61, 61, 61, 61, 61, 61, 61, 10] := by
  induction l with
  | nil => exact Nat.zero_le _
  | cons p r ih =>
    rw [text_cons, List.count_append]
    unfold clashN at ih ⊢
    rw [List.countP_cons]
    by_cases e : p.kind = 4
    · have : 1 ≤ (text1 head foot p).count [61, 61, 61, 61, 61, 61, 61, 10] := by
        rw [List.one_le_count_iff]
        unfold text1
        rw [e]; simp
      simp only [e, BEq.rfl, if_true]; omega
    · have : (p.kind == 4) = false := beq_eq_false_iff_ne.2 e
      simp only [this]; simp; omega
theorem text1_len {head foot : Line} {p : PartN Line} (h : ¬ (p.base = [] ∧ p.ours = [] ∧ p.theirs = [])) : (text1 head foot p).length ≤ 5 * (p.base.length + p.ours.length + p.theirs.length) ∧ (calm1 p = true → (text1 head foot p).length ≤ p.base.length + p.ours.length + p.theirs.length) := by
  have hc : ∀ l : List Line, (closedN l).length = l.length := fun l => by
    unfold closedN
    cases e : l.getLast? with
    | none => rfl
    | some z =>
      have hne : 0 < l.length := List.length_pos_iff.2 (by rintro rfl; cases e)
      show (if _ then _ else _ : List Line).length = _
      split
      · rfl
      · simp; omega
  have hpos : 0 < p.base.length + p.ours.length + p.theirs.length := by
    rcases Nat.eq_zero_or_pos (p.base.length + p.ours.length + p.theirs.length) with e | e
    · exact absurd ⟨List.length_eq_zero_iff.1 (by omega), List.length_eq_zero_iff.1 (by omega), List.length_eq_zero_iff.1 (by omega)⟩ h
    · exact e
  rcases text1_cases head foot p with e | e | ⟨e, hcalm⟩
  · rw [e]; exact ⟨by omega, fun _ => by omega⟩
  · rw [e]; exact ⟨by omega, fun _ => by omega⟩
  · rw [e]
    simp only [List.length_append, hc, List.length_cons, List.length_nil]
    exact ⟨by omega, fun k => by rw [hcalm] at k; cases k⟩
theorem flat_len {α β : Type} (f : α → List β) (g : α → Nat) (n : Nat) (l : List α) (h : ∀ x ∈ l, (f x).length ≤ n * g x) : (l.flatMap f).length ≤ n * (l.map g).sum := by
  induction l with
  | nil => simp
  | cons x r ih =>
    rw [List.flatMap_cons, List.length_append, List.map_cons, List.sum_cons, Nat.mul_add]
    have := h x List.mem_cons_self
    have := ih (fun y hy => h y (List.mem_cons_of_mem _ hy))
    omega
theorem lens_sum {α : Type} (l : List (PartN α)) : (l.map fun p => p.base.length + p.ours.length + p.theirs.length).sum = (l.flatMap PartN.base).length + (l.flatMap PartN.ours).length + (l.flatMap PartN.theirs).length := by
  induction l with
  | nil => rfl
  | cons p r ih => simp only [List.map_cons, List.sum_cons, ih, List.flatMap_cons, List.length_append]; omega
/-- How long the text of a merge is. -/
theorem merge_len (head foot : Line) (a b c : List Line) : (textN head foot (mergeN a b c)).length ≤ 5 * (a.length + b.length + c.length) ∧ (calmN (mergeN a b c) = true → (textN head foot (mergeN a b c)).length ≤ a.length + b.length + c.length) := by
  obtain ⟨f1, f2, f3⟩ := merge_flat a b c
  have hs := lens_sum (mergeN a b c)
  rw [f1, f2, f3] at hs
  rw [← hs]
  have hg := good_all (merge_good a b c)
  refine ⟨flat_len _ _ 5 _ (fun p hp => (text1_len (hg p hp).2).1), fun hc => ?_⟩
  have := flat_len (text1 head foot) (fun p : PartN Line => p.base.length + p.ours.length + p.theirs.length) 1 (mergeN a b c) (fun p hp => by
    rw [Nat.one_mul]; exact (text1_len (hg p hp).2).2 (List.all_eq_true.1 hc p hp))
  rw [Nat.one_mul] at this
  exact this
/-- How many lines stand fast in parts. -/
def steadyN {α : Type} (l : List (PartN α)) : List α := l.flatMap fun p => if p.kind = 0 then p.base else []
theorem flat_sub {α β : Type} {f g : α → List β} {l : List α} (h : ∀ x ∈ l, (f x).Sublist (g x)) : (l.flatMap f).Sublist (l.flatMap g) := by
  induction l with
  | nil => exact List.Sublist.refl _
  | cons x r ih => rw [List.flatMap_cons, List.flatMap_cons]; exact (h x List.mem_cons_self).append (ih (fun y hy => h y (List.mem_cons_of_mem _ hy)))
theorem steady_lcs (head foot : Line) (a b c : List Line) : (steadyN (mergeN a b c)).length ≤ lcs a (textN head foot (mergeN a b c)) := by
  have hg := good_all (merge_good a b c)
  apply sub_lcs
  · conv => rhs; rw [← (merge_flat a b c).1]
    exact flat_sub (fun p _ => by
      by_cases h : p.kind = 0
      · rw [if_pos h]; exact List.Sublist.refl _
      · rw [if_neg h]; exact List.nil_sublist _)
  · exact flat_sub (fun p hp => by
      by_cases h : p.kind = 0
      · rw [if_pos h]
        obtain ⟨e1, e2⟩ := kind_zero.1 ((hg p hp).1.symm.trans h)
        unfold text1
        rw [if_pos (Or.inl h), ← e1]
        exact List.Sublist.refl _
      · rw [if_neg h]; exact List.nil_sublist _)
/-- Both ways the same text, where there is no conflict. -/
theorem swap_text {head foot head' foot' : Line} {l : List (PartN Line)} (hg : ∀ p ∈ l, GoodPart p) (hc : calmN l = true) : textN head' foot' (l.map swapN) = textN head foot l := by
  induction l with
  | nil => rfl
  | cons p r ih =>
    rw [calm_cons, Bool.and_eq_true] at hc
    rw [List.map_cons, text_cons, text_cons, ih (fun q hq => hg q (List.mem_cons_of_mem _ hq)) hc.2]
    congr 1
    have hk := hg p List.mem_cons_self
    have h := hk.1
    have hcalm := hc.1
    unfold calm1 at hcalm
    rcases of_decide_eq_true hcalm with e | e | e | e
    · rw [e] at h
      obtain ⟨e1, e2⟩ := kind_zero.1 h.symm
      unfold text1 swapN
      simp [e, ← e1, ← e2]
    · unfold text1 swapN; simp [e]
    · have : p.ours = p.theirs := by
        rw [e] at h
        unfold kindN at h
        repeat' split at h
        all_goals first | assumption | (exfalso; revert h; decide)
      unfold text1 swapN
      simp [e, this]
    · unfold text1 swapN; simp [e]
theorem swap_calm {α : Type} (l : List (PartN α)) : calmN (l.map swapN) = calmN l := by
  induction l with
  | nil => rfl
  | cons p r ih =>
    rw [List.map_cons, calm_cons, calm_cons, ih]
    congr 1
    unfold calm1 swapN
    apply decide_eq_decide.2
    show ((if p.kind = 1 then (2 : Int) else if p.kind = 2 then 1 else p.kind) = 0 ∨ _) ↔ _
    by_cases h1 : p.kind = 1
    · simp [h1]
    · by_cases h2 : p.kind = 2
      · simp [h2]
      · simp [h1, h2]
theorem swap_swap {α : Type} (p : PartN α) : swapN (swapN p) = p := by
  obtain ⟨k, a, b, c⟩ := p
  show PartN.mk (if (if k = 1 then (2 : Int) else if k = 2 then 1 else k) = 1 then (2 : Int) else if (if k = 1 then (2 : Int) else if k = 2 then 1 else k) = 2 then 1 else (if k = 1 then (2 : Int) else if k = 2 then 1 else k)) a b c = _
  by_cases h1 : k = 1
  · subst h1; rfl
  · by_cases h2 : k = 2
    · subst h2; rfl
    · simp only [if_neg h1, if_neg h2]
end Go.Proofs.Ytfiogjdjcocbnaa
