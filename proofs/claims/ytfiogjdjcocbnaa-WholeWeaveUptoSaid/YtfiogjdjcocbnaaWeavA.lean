/- Merging three lists: which places stand fast, the parts between them, what is made of them. -/
import Derived.Test.YtfiogjdjcocbnaaLinB
namespace Go.Proofs.Ytfiogjdjcocbnaa

/-- Lines of three lists that stand at one place. -/
structure PartN (α : Type) where
  kind : Int
  base : List α
  ours : List α
  theirs : List α
section
variable {α : Type}
def fastI (o : Nat × Nat) (f : List (Nat × Nat) → List (Nat × Nat × Nat)) : List (Nat × Nat) → List (Nat × Nat × Nat)
  | [] => []
  | t :: ts => if o.1 = t.1 then (o.1, o.2, t.2) :: f ts else if o.1 < t.1 then f (t :: ts) else fastI o f ts
/-- The places at which all three lists stand fast. -/
def fastN : List (Nat × Nat) → List (Nat × Nat) → List (Nat × Nat × Nat)
  | [] => fun _ => []
  | o :: os => fastI o (fastN os)
theorem fastN_nil (t : List (Nat × Nat)) : fastN [] t = [] := rfl
theorem fastN_none (o : List (Nat × Nat)) : fastN o [] = [] := by cases o <;> rfl
theorem fastN_eq {o t : Nat × Nat} (h : o.1 = t.1) (os ts : List (Nat × Nat)) : fastN (o :: os) (t :: ts) = (o.1, o.2, t.2) :: fastN os ts := by
  show (if _ then _ else _) = _
  rw [if_pos h]
theorem fastN_lt {o t : Nat × Nat} (h : o.1 < t.1) (os ts : List (Nat × Nat)) : fastN (o :: os) (t :: ts) = fastN os (t :: ts) := by
  show (if _ then _ else if _ then _ else _) = _
  rw [if_neg (by omega), if_pos h]
theorem fastN_gt {o t : Nat × Nat} (h : t.1 < o.1) (os ts : List (Nat × Nat)) : fastN (o :: os) (t :: ts) = fastN (o :: os) ts := by
  show (if _ then _ else if _ then _ else _) = _
  rw [if_neg (by omega), if_neg (by omega)]; rfl
theorem fastN_swap (o : List (Nat × Nat)) : ∀ t, fastN t o = (fastN o t).map fun f => (f.1, f.2.2, f.2.1) := by
  induction o with
  | nil => intro t; rw [fastN_none]; rfl
  | cons o os ih =>
    intro t
    induction t with
    | nil => rfl
    | cons t ts iht =>
      rcases Nat.lt_trichotomy o.1 t.1 with h | h | h
      · rw [fastN_lt h, fastN_gt h, ih]
      · rw [fastN_eq h, fastN_eq h.symm, ih, List.map_cons, h]
      · rw [fastN_gt h, fastN_lt h, iht]
/-- Places in three lists, one behind the other, at which all are alike. -/
def FastOk (a b c : List α) : Nat → Nat → Nat → List (Nat × Nat × Nat) → Prop
  | _, _, _, [] => True
  | i, j, k, f :: r => i ≤ f.1 ∧ j ≤ f.2.1 ∧ k ≤ f.2.2 ∧ f.1 < a.length ∧ f.2.1 < b.length ∧ f.2.2 < c.length ∧ a[f.1]? = b[f.2.1]? ∧ a[f.1]? = c[f.2.2]? ∧ FastOk a b c (f.1 + 1) (f.2.1 + 1) (f.2.2 + 1) r
theorem FastOk.lower {a b c : List α} {i j k i' j' k' : Nat} (hi : i' ≤ i) (hj : j' ≤ j) (hk : k' ≤ k) : ∀ {F : List (Nat × Nat × Nat)}, FastOk a b c i j k F → FastOk a b c i' j' k' F
  | [], _ => trivial
  | _ :: _, ⟨h1, h2, h3, h4⟩ => ⟨Nat.le_trans hi h1, Nat.le_trans hj h2, Nat.le_trans hk h3, h4⟩
theorem fast_ok (a b c : List α) (o : List (Nat × Nat)) : ∀ (t : List (Nat × Nat)) (i j k : Nat), PairsOk a b i j o → PairsOk a c i k t → FastOk a b c i j k (fastN o t) := by
  induction o with
  | nil => intro t i j k _ _; trivial
  | cons o os ih =>
    intro t
    induction t with
    | nil => intro i j k _ _; rw [fastN_none]; trivial
    | cons t ts iht =>
      intro i j k ho ht
      obtain ⟨o1, o2, o3, o4, o5, o6⟩ := ho
      obtain ⟨t1, t2, t3, t4, t5, t6⟩ := ht
      rcases Nat.lt_trichotomy o.1 t.1 with h | h | h
      · rw [fastN_lt h]
        exact (ih (t :: ts) (o.1 + 1) (o.2 + 1) k o6 ⟨h, t2, t3, t4, t5, t6⟩).lower (by omega) (by omega) (Nat.le_refl _)
      · rw [fastN_eq h]
        rw [← h] at t5 t6
        exact ⟨o1, o2, t2, o3, o4, t4, o5, t5, ih ts (o.1 + 1) (o.2 + 1) (t.2 + 1) o6 t6⟩
      · rw [fastN_gt h]
        exact (iht (t.1 + 1) j (t.2 + 1) ⟨h, o2, o3, o4, o5, o6⟩ t6).lower (by omega) (Nat.le_refl _) (by omega)
variable [DecidableEq α]
/-- What three lists of lines say. -/
def kindN (a b c : List α) : Int := if a = b ∧ a = c then 0 else if a = c then 1 else if a = b then 2 else if b = c then 3 else 4
def mkN (a b c : List α) : PartN α := ⟨kindN a b c, a, b, c⟩
/-- The parts between places, and at them, of what is left of three lists. -/
def segsN : List α → List α → List α → Nat → Nat → Nat → List (Nat × Nat × Nat) → List (PartN α)
  | a, b, c, _, _, _, [] => [mkN a b c]
  | a, b, c, i, j, k, f :: r => mkN (a.take (f.1 - i)) (b.take (f.2.1 - j)) (c.take (f.2.2 - k)) :: mkN ((a.drop (f.1 - i)).take 1) ((b.drop (f.2.1 - j)).take 1) ((c.drop (f.2.2 - k)).take 1) ::
      segsN ((a.drop (f.1 - i)).drop 1) ((b.drop (f.2.1 - j)).drop 1) ((c.drop (f.2.2 - k)).drop 1) (f.1 + 1) (f.2.1 + 1) (f.2.2 + 1) r
/-- Parts, and one more, if it has any line; what stands fast side by side is one part. -/
def putN (l : List (PartN α)) (p : PartN α) : List (PartN α) :=
  if p.base = [] ∧ p.ours = [] ∧ p.theirs = [] then l else
    match l.getLast? with
    | none => l ++ [p]
    | some q => if q.kind = 0 ∧ p.kind = 0 then l.dropLast ++ [⟨q.kind, q.base ++ p.base, q.ours ++ p.ours, q.theirs ++ p.theirs⟩] else l ++ [p]
def mergeN (a b c : List α) : List (PartN α) := (segsN a b c 0 0 0 (fastN (pairsN a 0 b 0) (pairsN a 0 c 0))).foldl putN []
omit [DecidableEq α] in
theorem split_last {l : List (PartN α)} {q : PartN α} (h : l.getLast? = some q) : l = l.dropLast ++ [q] := by
  have hne : l ≠ [] := by rintro rfl; simp at h
  rw [List.getLast?_eq_some_getLast hne] at h
  injection h with h
  rw [← h, List.dropLast_concat_getLast]
omit [DecidableEq α] in
theorem putN_cases (l : List (PartN α)) (p : PartN α) : ((p.base = [] ∧ p.ours = [] ∧ p.theirs = []) ∧ putN l p = l) ∨
    (∃ q, ¬ (p.base = [] ∧ p.ours = [] ∧ p.theirs = []) ∧ l = l.dropLast ++ [q] ∧ q.kind = 0 ∧ p.kind = 0 ∧ putN l p = l.dropLast ++ [⟨q.kind, q.base ++ p.base, q.ours ++ p.ours, q.theirs ++ p.theirs⟩]) ∨
    (¬ (p.base = [] ∧ p.ours = [] ∧ p.theirs = []) ∧ (∀ q, l = l.dropLast ++ [q] → ¬ (q.kind = 0 ∧ p.kind = 0)) ∧ putN l p = l ++ [p]) := by
  unfold putN
  by_cases h : p.base = [] ∧ p.ours = [] ∧ p.theirs = []
  · exact Or.inl ⟨h, if_pos h⟩
  · rw [if_neg h]
    right
    cases e : l.getLast? with
    | none =>
      refine Or.inr ⟨h, fun q hq => ?_, rfl⟩
      rw [List.getLast?_eq_none_iff] at e
      subst e
      simp at hq
    | some q =>
      have e2 := split_last e
      by_cases k : q.kind = 0 ∧ p.kind = 0
      · exact Or.inl ⟨q, h, e2, k.1, k.2, if_pos k⟩
      · refine Or.inr ⟨h, fun r hr hk => ?_, if_neg k⟩
        rw [e2] at hr
        have hr' := List.append_cancel_left (hr.trans (by rw [List.dropLast_concat]))
        injection hr' with hr'
        exact k (by rw [hr']; exact hk)
theorem segs_base (F : List (Nat × Nat × Nat)) : ∀ (a b c : List α) (i j k : Nat), (segsN a b c i j k F).flatMap PartN.base = a ∧ (segsN a b c i j k F).flatMap PartN.ours = b ∧ (segsN a b c i j k F).flatMap PartN.theirs = c := by
  induction F with
  | nil => intro a b c i j k; simp [segsN, mkN]
  | cons f F ih =>
    intro a b c i j k
    obtain ⟨h1, h2, h3⟩ := ih ((a.drop (f.1 - i)).drop 1) ((b.drop (f.2.1 - j)).drop 1) ((c.drop (f.2.2 - k)).drop 1) (f.1 + 1) (f.2.1 + 1) (f.2.2 + 1)
    simp only [segsN, List.flatMap_cons, h1, h2, h3, mkN, List.take_append_drop, and_self]
omit [DecidableEq α] in
theorem put_flat (f : PartN α → List α) (hf : ∀ p : PartN α, p.base = [] ∧ p.ours = [] ∧ p.theirs = [] → f p = []) (hj : ∀ q p : PartN α, f ⟨q.kind, q.base ++ p.base, q.ours ++ p.ours, q.theirs ++ p.theirs⟩ = f q ++ f p) (l : List (PartN α)) (p : PartN α) :
    (putN l p).flatMap f = l.flatMap f ++ f p := by
  rcases putN_cases l p with ⟨h, e⟩ | ⟨q, _, h2, _, _, e⟩ | ⟨_, _, e⟩
  · rw [e, hf p h, List.append_nil]
  · rw [e]
    conv => rhs; rw [h2]
    simp [hj]
  · rw [e]; simp
omit [DecidableEq α] in
theorem puts_flat (f : PartN α → List α) (hf : ∀ p : PartN α, p.base = [] ∧ p.ours = [] ∧ p.theirs = [] → f p = []) (hj : ∀ q p : PartN α, f ⟨q.kind, q.base ++ p.base, q.ours ++ p.ours, q.theirs ++ p.theirs⟩ = f q ++ f p) (r : List (PartN α)) :
    ∀ l : List (PartN α), (r.foldl putN l).flatMap f = l.flatMap f ++ r.flatMap f := by
  induction r with
  | nil => intro l; simp
  | cons p r ih => intro l; rw [List.foldl_cons, ih, put_flat f hf hj, List.flatMap_cons, List.append_assoc]
theorem merge_flat (a b c : List α) : (mergeN a b c).flatMap PartN.base = a ∧ (mergeN a b c).flatMap PartN.ours = b ∧ (mergeN a b c).flatMap PartN.theirs = c := by
  obtain ⟨h1, h2, h3⟩ := segs_base (fastN (pairsN a 0 b 0) (pairsN a 0 c 0)) a b c 0 0 0
  refine ⟨?_, ?_, ?_⟩
  · unfold mergeN; rw [puts_flat _ (fun p h => h.1) (fun _ _ => rfl), h1]; rfl
  · unfold mergeN; rw [puts_flat _ (fun p h => h.2.1) (fun _ _ => rfl), h2]; rfl
  · unfold mergeN; rw [puts_flat _ (fun p h => h.2.2) (fun _ _ => rfl), h3]; rfl
/-- What a list of parts is: each of the kind that its lines say, none empty, none side by side that stand fast. -/
def GoodPart (p : PartN α) : Prop := p.kind = kindN p.base p.ours p.theirs ∧ ¬ (p.base = [] ∧ p.ours = [] ∧ p.theirs = [])
def Good : List (PartN α) → Prop
  | [] => True
  | p :: r => GoodPart p ∧ (∀ q, r.head? = some q → ¬ (p.kind = 0 ∧ q.kind = 0)) ∧ Good r
theorem good_append {l r : List (PartN α)} : Good (l ++ r) ↔ Good l ∧ Good r ∧ ∀ p q, l.getLast? = some p → r.head? = some q → ¬ (p.kind = 0 ∧ q.kind = 0) := by
  induction l with
  | nil => simp [Good]
  | cons x l ih =>
    cases l with
    | nil =>
      simp only [List.singleton_append, Good, List.head?_nil, List.getLast?_singleton, Option.some.injEq]
      constructor
      · rintro ⟨h1, h2, h3⟩; exact ⟨⟨h1, fun q h => (by cases h), trivial⟩, h3, fun p q hp hq => by subst hp; exact h2 q hq⟩
      · rintro ⟨⟨h1, _, _⟩, h3, h4⟩; exact ⟨h1, fun q hq => h4 x q rfl hq, h3⟩
    | cons y l =>
      have e : (x :: y :: l).getLast? = (y :: l).getLast? := by simp [List.getLast?_cons]
      rw [e]
      show GoodPart x ∧ _ ∧ Good ((y :: l) ++ r) ↔ _
      rw [ih]
      show _ ↔ (GoodPart x ∧ (∀ q, (y :: l).head? = some q → _) ∧ Good (y :: l)) ∧ _
      simp only [List.head?_cons]
      constructor
      · rintro ⟨h1, h2, h3, h4, h5⟩; exact ⟨⟨h1, h2, h3⟩, h4, h5⟩
      · rintro ⟨⟨h1, h2, h3⟩, h4, h5⟩; exact ⟨h1, h2, h3, h4, h5⟩
theorem kind_zero {a b c : List α} : kindN a b c = 0 ↔ a = b ∧ a = c := by
  unfold kindN
  by_cases h : a = b ∧ a = c
  · rw [if_pos h]; exact ⟨fun _ => h, fun _ => rfl⟩
  · rw [if_neg h]
    constructor
    · intro k; exfalso; revert k; repeat' split
      all_goals decide
    · intro k; exact absurd k h
theorem put_good {l : List (PartN α)} {p : PartN α} (hl : Good l) (hp : p.kind = kindN p.base p.ours p.theirs) : Good (putN l p) := by
  rcases putN_cases l p with ⟨h, e⟩ | ⟨q, h1, h2, h3, h4, e⟩ | ⟨h1, h2, e⟩
  · rw [e]; exact hl
  · rw [e]
    rw [h2, good_append] at hl
    obtain ⟨g1, ⟨g2, _, _⟩, g4⟩ := hl
    obtain ⟨b1, b2⟩ := kind_zero.1 (h4.symm.trans hp).symm
    obtain ⟨c1, c2⟩ := kind_zero.1 (h3.symm.trans g2.1).symm
    rw [good_append]
    refine ⟨g1, ⟨⟨?_, ?_⟩, fun q h => (by cases h), trivial⟩, fun x y hx hy => ?_⟩
    · show q.kind = kindN (q.base ++ p.base) (q.ours ++ p.ours) (q.theirs ++ p.theirs)
      rw [h3, ← b1, ← b2, ← c1, ← c2]; exact (kind_zero.2 ⟨rfl, rfl⟩).symm
    · rintro ⟨k1, k2, k3⟩
      exact h1 ⟨(List.append_eq_nil_iff.1 k1).2, (List.append_eq_nil_iff.1 k2).2, (List.append_eq_nil_iff.1 k3).2⟩
    · injection hy with hy
      rw [← hy]
      exact g4 x q hx rfl
  · rw [e, good_append]
    refine ⟨hl, ⟨⟨hp, h1⟩, fun q h => (by cases h), trivial⟩, fun x y hx hy => ?_⟩
    injection hy with hy
    subst hy
    exact h2 x (split_last hx)
theorem puts_good (r : List (PartN α)) : ∀ l : List (PartN α), Good l → (∀ p ∈ r, p.kind = kindN p.base p.ours p.theirs) → Good (r.foldl putN l) := by
  induction r with
  | nil => intro l h _; exact h
  | cons p r ih => intro l h hr; rw [List.foldl_cons]; exact ih _ (put_good h (hr p List.mem_cons_self)) (fun q hq => hr q (List.mem_cons_of_mem _ hq))
theorem segs_kind (F : List (Nat × Nat × Nat)) : ∀ (a b c : List α) (i j k : Nat), ∀ p ∈ segsN a b c i j k F, p.kind = kindN p.base p.ours p.theirs := by
  induction F with
  | nil => intro a b c i j k p hp; rw [segsN, List.mem_singleton] at hp; subst hp; rfl
  | cons f F ih =>
    intro a b c i j k p hp
    rw [segsN] at hp
    rcases List.mem_cons.1 hp with rfl | hp
    · rfl
    · rcases List.mem_cons.1 hp with rfl | hp
      · rfl
      · exact ih _ _ _ _ _ _ p hp
theorem merge_good (a b c : List α) : Good (mergeN a b c) := puts_good _ _ trivial (segs_kind _ _ _ _ _ _ _)
/-- A part with the sides turned about. -/
def swapN (p : PartN α) : PartN α := ⟨if p.kind = 1 then 2 else if p.kind = 2 then 1 else p.kind, p.base, p.theirs, p.ours⟩
theorem kind_swap (a b c : List α) : kindN a c b = (if kindN a b c = 1 then 2 else if kindN a b c = 2 then 1 else kindN a b c) := by
  unfold kindN
  by_cases h1 : a = b <;> by_cases h2 : a = c
  · subst h1; subst h2; simp
  · subst h1; simp [h2]
  · subst h2; simp [h1]
  · have h4 : (c = b) = (b = c) := propext eq_comm
    by_cases h3 : b = c
    · subst h3; simp [h1]
    · simp [h1, h2, h3, h4]
theorem swap_mk (a b c : List α) : swapN (mkN a b c) = mkN a c b := by
  show PartN.mk _ _ _ _ = PartN.mk _ _ _ _
  rw [kind_swap a b c]; rfl
theorem segs_swap (F : List (Nat × Nat × Nat)) : ∀ (a b c : List α) (i j k : Nat), segsN a c b i k j (F.map fun f => (f.1, f.2.2, f.2.1)) = (segsN a b c i j k F).map swapN := by
  induction F with
  | nil => intro a b c i j k; simp [segsN, swap_mk]
  | cons f F ih => intro a b c i j k; simp only [List.map_cons, segsN, swap_mk, ih]
omit [DecidableEq α] in
theorem swap_zero (p : PartN α) : (swapN p).kind = 0 ↔ p.kind = 0 := by
  show (if _ then _ else if _ then _ else _) = (0 : Int) ↔ _
  split
  · rename_i h; rw [h]; decide
  · split
    · rename_i h; rw [h]; decide
    · exact Iff.rfl
omit [DecidableEq α] in
theorem put_swap (l : List (PartN α)) (p : PartN α) : putN (l.map swapN) (swapN p) = (putN l p).map swapN := by
  have e0 : ((swapN p).base = [] ∧ (swapN p).ours = [] ∧ (swapN p).theirs = []) ↔ (p.base = [] ∧ p.ours = [] ∧ p.theirs = []) :=
    ⟨fun ⟨h1, h2, h3⟩ => ⟨h1, h3, h2⟩, fun ⟨h1, h2, h3⟩ => ⟨h1, h3, h2⟩⟩
  unfold putN
  by_cases h : p.base = [] ∧ p.ours = [] ∧ p.theirs = []
  · rw [if_pos h, if_pos (e0.2 h)]
  · rw [if_neg h, if_neg (fun k => h (e0.1 k)), List.getLast?_map]
    cases e : l.getLast? with
    | none => simp
    | some q =>
      simp only [Option.map_some]
      by_cases k : q.kind = 0 ∧ p.kind = 0
      · rw [if_pos k, if_pos ⟨(swap_zero q).2 k.1, (swap_zero p).2 k.2⟩, List.map_append, List.map_dropLast]
        congr 1
      · rw [if_neg k, if_neg (fun c => k ⟨(swap_zero q).1 c.1, (swap_zero p).1 c.2⟩), List.map_append]; rfl
omit [DecidableEq α] in
theorem puts_swap (r : List (PartN α)) : ∀ l : List (PartN α), (r.map swapN).foldl putN (l.map swapN) = (r.foldl putN l).map swapN := by
  induction r with
  | nil => intro l; rfl
  | cons p r ih => intro l; rw [List.map_cons, List.foldl_cons, List.foldl_cons, put_swap, ih]
theorem merge_swap (a b c : List α) : mergeN a c b = (mergeN a b c).map swapN := by
  unfold mergeN
  rw [fastN_swap, segs_swap]
  exact puts_swap _ []
end
end Go.Proofs.Ytfiogjdjcocbnaa
