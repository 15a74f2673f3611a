/- Merging three lists: which places stand fast, the parts between them, what is made of them. The text that parts make; where one side is the base; changes on either side of a line. The text that parts make: where one side is the base, where both are alike, where changes stand apart. Lines that end, conflicts and marks, what stands fast in a merge, how long its text is. -/
import Derived.Test.YtjlpdoppnhcjoaaDoorLinAll
namespace Go.Proofs.YtjlpdoppnhcjoaaDoor

/-- Lines of three lists that stand at one place. -/
structure PartN (α : Type) where
  kind : Int
  base : List α
  ours : List α
  theirs : List α
section
variable {α : Type}
def fastI (o : Nat × Nat) (f : List (Nat × Nat) → List (Nat × Nat × Nat)) : List (Nat × Nat) → List (Nat × Nat × Nat)
  | [] => []
  | t :: ts => if o.1 = t.1 then (o.1, o.2, t.2) :: f ts else if o.1 < t.1 then f (t :: ts) else fastI o f ts
/-- The places at which all three lists stand fast. -/
def fastN : List (Nat × Nat) → List (Nat × Nat) → List (Nat × Nat × Nat)
  | [] => fun _ => []
  | o :: os => fastI o (fastN os)
theorem fastN_nil (t : List (Nat × Nat)) : fastN [] t = [] := rfl
theorem fastN_none (o : List (Nat × Nat)) : fastN o [] = [] := by cases o <;> rfl
theorem fastN_eq {o t : Nat × Nat} (h : o.1 = t.1) (os ts : List (Nat × Nat)) : fastN (o :: os) (t :: ts) = (o.1, o.2, t.2) :: fastN os ts := by
  show (if _ then _ else _) = _
  rw [if_pos h]
theorem fastN_lt {o t : Nat × Nat} (h : o.1 < t.1) (os ts : List (Nat × Nat)) : fastN (o :: os) (t :: ts) = fastN os (t :: ts) := by
  show (if _ then _ else if _ then _ else _) = _
  rw [if_neg (by omega), if_pos h]
theorem fastN_gt {o t : Nat × Nat} (h : t.1 < o.1) (os ts : List (Nat × Nat)) : fastN (o :: os) (t :: ts) = fastN (o :: os) ts := by
  show (if _ then _ else if _ then _ else _) = _
  rw [if_neg (by omega), if_neg (by omega)]; rfl
theorem fastN_swap (o : List (Nat × Nat)) : ∀ t, fastN t o = (fastN o t).map fun f => (f.1, f.2.2, f.2.1) := by
  induction o with
  | nil => intro t; rw [fastN_none]; rfl
  | cons o os ih =>
    intro t
    induction t with
    | nil => rfl
    | cons t ts iht =>
      rcases Nat.lt_trichotomy o.1 t.1 with h | h | h
      · rw [fastN_lt h, fastN_gt h, ih]
      · rw [fastN_eq h, fastN_eq h.symm, ih, List.map_cons, h]
      · rw [fastN_gt h, fastN_lt h, iht]
/-- Places in three lists, one behind the other, at which all are alike. -/
def FastOk (a b c : List α) : Nat → Nat → Nat → List (Nat × Nat × Nat) → Prop
  | _, _, _, [] => True
  | i, j, k, f :: r => i ≤ f.1 ∧ j ≤ f.2.1 ∧ k ≤ f.2.2 ∧ f.1 < a.length ∧ f.2.1 < b.length ∧ f.2.2 < c.length ∧ a[f.1]? = b[f.2.1]? ∧ a[f.1]? = c[f.2.2]? ∧ FastOk a b c (f.1 + 1) (f.2.1 + 1) (f.2.2 + 1) r
theorem FastOk.lower {a b c : List α} {i j k i' j' k' : Nat} (hi : i' ≤ i) (hj : j' ≤ j) (hk : k' ≤ k) : ∀ {F : List (Nat × Nat × Nat)}, FastOk a b c i j k F → FastOk a b c i' j' k' F
  | [], _ => trivial
  | _ :: _, ⟨h1, h2, h3, h4⟩ => ⟨Nat.le_trans hi h1, Nat.le_trans hj h2, Nat.le_trans hk h3, h4⟩
theorem fast_ok (a b c : List α) (o : List (Nat × Nat)) : ∀ (t : List (Nat × Nat)) (i j k : Nat), PairsOk a b i j o → PairsOk a c i k t → FastOk a b c i j k (fastN o t) := by
  induction o with
  | nil => intro t i j k _ _; trivial
  | cons o os ih =>
    intro t
    induction t with
    | nil => intro i j k _ _; rw [fastN_none]; trivial
    | cons t ts iht =>
      intro i j k ho ht
      obtain ⟨o1, o2, o3, o4, o5, o6⟩ := ho
      obtain ⟨t1, t2, t3, t4, t5, t6⟩ := ht
      rcases Nat.lt_trichotomy o.1 t.1 with h | h | h
      · rw [fastN_lt h]
        exact (ih (t :: ts) (o.1 + 1) (o.2 + 1) k o6 ⟨h, t2, t3, t4, t5, t6⟩).lower (by omega) (by omega) (Nat.le_refl _)
      · rw [fastN_eq h]
        rw [← h] at t5 t6
        exact ⟨o1, o2, t2, o3, o4, t4, o5, t5, ih ts (o.1 + 1) (o.2 + 1) (t.2 + 1) o6 t6⟩
      · rw [fastN_gt h]
        exact (iht (t.1 + 1) j (t.2 + 1) ⟨h, o2, o3, o4, o5, o6⟩ t6).lower (by omega) (Nat.le_refl _) (by omega)
variable [DecidableEq α]
/-- What three lists of lines say. -/
def kindN (a b c : List α) : Int := if a = b ∧ a = c then 0 else if a = c then 1 else if a = b then 2 else if b = c then 3 else 4
def mkN (a b c : List α) : PartN α := ⟨kindN a b c, a, b, c⟩
/-- The parts between places, and at them, of what is left of three lists. -/
def segsN : List α → List α → List α → Nat → Nat → Nat → List (Nat × Nat × Nat) → List (PartN α)
  | a, b, c, _, _, _, [] => [mkN a b c]
  | a, b, c, i, j, k, f :: r => mkN (a.take (f.1 - i)) (b.take (f.2.1 - j)) (c.take (f.2.2 - k)) :: mkN ((a.drop (f.1 - i)).take 1) ((b.drop (f.2.1 - j)).take 1) ((c.drop (f.2.2 - k)).take 1) ::
      segsN ((a.drop (f.1 - i)).drop 1) ((b.drop (f.2.1 - j)).drop 1) ((c.drop (f.2.2 - k)).drop 1) (f.1 + 1) (f.2.1 + 1) (f.2.2 + 1) r
/-- Parts, and one more, if it has any line; what stands fast side by side is one part. -/
def putN (l : List (PartN α)) (p : PartN α) : List (PartN α) :=
  if p.base = [] ∧ p.ours = [] ∧ p.theirs = [] then l else
    match l.getLast? with
    | none => l ++ [p]
    | some q => if q.kind = 0 ∧ p.kind = 0 then l.dropLast ++ [⟨q.kind, q.base ++ p.base, q.ours ++ p.ours, q.theirs ++ p.theirs⟩] else l ++ [p]
def mergeN (a b c : List α) : List (PartN α) := (segsN a b c 0 0 0 (fastN (pairsN a 0 b 0) (pairsN a 0 c 0))).foldl putN []
omit [DecidableEq α] in
theorem split_last {l : List (PartN α)} {q : PartN α} (h : l.getLast? = some q) : l = l.dropLast ++ [q] := by
  have hne : l ≠ [] := by rintro rfl; simp at h
  rw [List.getLast?_eq_some_getLast hne] at h
  injection h with h
  rw [← h, List.dropLast_concat_getLast]
omit [DecidableEq α] in
theorem putN_cases (l : List (PartN α)) (p : PartN α) : ((p.base = [] ∧ p.ours = [] ∧ p.theirs = []) ∧ putN l p = l) ∨
    (∃ q, ¬ (p.base = [] ∧ p.ours = [] ∧ p.theirs = []) ∧ l = l.dropLast ++ [q] ∧ q.kind = 0 ∧ p.kind = 0 ∧ putN l p = l.dropLast ++ [⟨q.kind, q.base ++ p.base, q.ours ++ p.ours, q.theirs ++ p.theirs⟩]) ∨
    (¬ (p.base = [] ∧ p.ours = [] ∧ p.theirs = []) ∧ (∀ q, l = l.dropLast ++ [q] → ¬ (q.kind = 0 ∧ p.kind = 0)) ∧ putN l p = l ++ [p]) := by
  unfold putN
  by_cases h : p.base = [] ∧ p.ours = [] ∧ p.theirs = []
  · exact Or.inl ⟨h, if_pos h⟩
  · rw [if_neg h]
    right
    cases e : l.getLast? with
    | none =>
      refine Or.inr ⟨h, fun q hq => ?_, rfl⟩
      rw [List.getLast?_eq_none_iff] at e
      subst e
      simp at hq
    | some q =>
      have e2 := split_last e
      by_cases k : q.kind = 0 ∧ p.kind = 0
      · exact Or.inl ⟨q, h, e2, k.1, k.2, if_pos k⟩
      · refine Or.inr ⟨h, fun r hr hk => ?_, if_neg k⟩
        rw [e2] at hr
        have hr' := List.append_cancel_left (hr.trans (by rw [List.dropLast_concat]))
        injection hr' with hr'
        exact k (by rw [hr']; exact hk)
theorem segs_base (F : List (Nat × Nat × Nat)) : ∀ (a b c : List α) (i j k : Nat), (segsN a b c i j k F).flatMap PartN.base = a ∧ (segsN a b c i j k F).flatMap PartN.ours = b ∧ (segsN a b c i j k F).flatMap PartN.theirs = c := by
  induction F with
  | nil => intro a b c i j k; simp [segsN, mkN]
  | cons f F ih =>
    intro a b c i j k
    obtain ⟨h1, h2, h3⟩ := ih ((a.drop (f.1 - i)).drop 1) ((b.drop (f.2.1 - j)).drop 1) ((c.drop (f.2.2 - k)).drop 1) (f.1 + 1) (f.2.1 + 1) (f.2.2 + 1)
    simp only [segsN, List.flatMap_cons, h1, h2, h3, mkN, List.take_append_drop, and_self]
omit [DecidableEq α] in
theorem put_flat (f : PartN α → List α) (hf : ∀ p : PartN α, p.base = [] ∧ p.ours = [] ∧ p.theirs = [] → f p = []) (hj : ∀ q p : PartN α, f ⟨q.kind, q.base ++ p.base, q.ours ++ p.ours, q.theirs ++ p.theirs⟩ = f q ++ f p) (l : List (PartN α)) (p : PartN α) :
    (putN l p).flatMap f = l.flatMap f ++ f p := by
  rcases putN_cases l p with ⟨h, e⟩ | ⟨q, _, h2, _, _, e⟩ | ⟨_, _, e⟩
  · rw [e, hf p h, List.append_nil]
  · rw [e]
    conv => rhs; rw [h2]
    simp [hj]
  · rw [e]; simp
omit [DecidableEq α] in
theorem puts_flat (f : PartN α → List α) (hf : ∀ p : PartN α, p.base = [] ∧ p.ours = [] ∧ p.theirs = [] → f p = []) (hj : ∀ q p : PartN α, f ⟨q.kind, q.base ++ p.base, q.ours ++ p.ours, q.theirs ++ p.theirs⟩ = f q ++ f p) (r : List (PartN α)) :
    ∀ l : List (PartN α), (r.foldl putN l).flatMap f = l.flatMap f ++ r.flatMap f := by
  induction r with
  | nil => intro l; simp
  | cons p r ih => intro l; rw [List.foldl_cons, ih, put_flat f hf hj, List.flatMap_cons, List.append_assoc]
theorem merge_flat (a b c : List α) : (mergeN a b c).flatMap PartN.base = a ∧ (mergeN a b c).flatMap PartN.ours = b ∧ (mergeN a b c).flatMap PartN.theirs = c := by
  obtain ⟨h1, h2, h3⟩ := segs_base (fastN (pairsN a 0 b 0) (pairsN a 0 c 0)) a b c 0 0 0
  refine ⟨?_, ?_, ?_⟩
  · unfold mergeN; rw [puts_flat _ (fun p h => h.1) (fun _ _ => rfl), h1]; rfl
  · unfold mergeN; rw [puts_flat _ (fun p h => h.2.1) (fun _ _ => rfl), h2]; rfl
  · unfold mergeN; rw [puts_flat _ (fun p h => h.2.2) (fun _ _ => rfl), h3]; rfl
/-- What a list of parts is: each of the kind that its lines say, none empty, none side by side that stand fast. -/
def GoodPart (p : PartN α) : Prop := p.kind = kindN p.base p.ours p.theirs ∧ ¬ (p.base = [] ∧ p.ours = [] ∧ p.theirs = [])
def Good : List (PartN α) → Prop
  | [] => True
  | p :: r => GoodPart p ∧ (∀ q, r.head? = some q → ¬ (p.kind = 0 ∧ q.kind = 0)) ∧ Good r
theorem good_append {l r : List (PartN α)} : Good (l ++ r) ↔ Good l ∧ Good r ∧ ∀ p q, l.getLast? = some p → r.head? = some q → ¬ (p.kind = 0 ∧ q.kind = 0) := by
  induction l with
  | nil => simp [Good]
  | cons x l ih =>
    cases l with
    | nil =>
      simp only [List.singleton_append, Good, List.head?_nil, List.getLast?_singleton, Option.some.injEq]
      constructor
      · rintro ⟨h1, h2, h3⟩; exact ⟨⟨h1, fun q h => (by cases h), trivial⟩, h3, fun p q hp hq => by subst hp; exact h2 q hq⟩
      · rintro ⟨⟨h1, _, _⟩, h3, h4⟩; exact ⟨h1, fun q hq => h4 x q rfl hq, h3⟩
    | cons y l =>
      have e : (x :: y :: l).getLast? = (y :: l).getLast? := by simp [List.getLast?_cons]
      rw [e]
      show GoodPart x ∧ _ ∧ Good ((y :: l) ++ r) ↔ _
      rw [ih]
      show _ ↔ (GoodPart x ∧ (∀ q, (y :: l).head? = some q → _) ∧ Good (y :: l)) ∧ _
      simp only [List.head?_cons]
      constructor
      · rintro ⟨h1, h2, h3, h4, h5⟩; exact ⟨⟨h1, h2, h3⟩, h4, h5⟩
      · rintro ⟨⟨h1, h2, h3⟩, h4, h5⟩; exact ⟨h1, h2, h3, h4, h5⟩
theorem kind_zero {a b c : List α} : kindN a b c = 0 ↔ a = b ∧ a = c := by
  unfold kindN
  by_cases h : a = b ∧ a = c
  · rw [if_pos h]; exact ⟨fun _ => h, fun _ => rfl⟩
  · rw [if_neg h]
    constructor
    · intro k; exfalso; revert k; repeat' split
      all_goals decide
    · intro k; exact absurd k h
theorem put_good {l : List (PartN α)} {p : PartN α} (hl : Good l) (hp : p.kind = kindN p.base p.ours p.theirs) : Good (putN l p) := by
  rcases putN_cases l p with ⟨h, e⟩ | ⟨q, h1, h2, h3, h4, e⟩ | ⟨h1, h2, e⟩
  · rw [e]; exact hl
  · rw [e]
    rw [h2, good_append] at hl
    obtain ⟨g1, ⟨g2, _, _⟩, g4⟩ := hl
    obtain ⟨b1, b2⟩ := kind_zero.1 (h4.symm.trans hp).symm
    obtain ⟨c1, c2⟩ := kind_zero.1 (h3.symm.trans g2.1).symm
    rw [good_append]
    refine ⟨g1, ⟨⟨?_, ?_⟩, fun q h => (by cases h), trivial⟩, fun x y hx hy => ?_⟩
    · show q.kind = kindN (q.base ++ p.base) (q.ours ++ p.ours) (q.theirs ++ p.theirs)
      rw [h3, ← b1, ← b2, ← c1, ← c2]; exact (kind_zero.2 ⟨rfl, rfl⟩).symm
    · rintro ⟨k1, k2, k3⟩
      exact h1 ⟨(List.append_eq_nil_iff.1 k1).2, (List.append_eq_nil_iff.1 k2).2, (List.append_eq_nil_iff.1 k3).2⟩
    · injection hy with hy
      rw [← hy]
      exact g4 x q hx rfl
  · rw [e, good_append]
    refine ⟨hl, ⟨⟨hp, h1⟩, fun q h => (by cases h), trivial⟩, fun x y hx hy => ?_⟩
    injection hy with hy
    subst hy
    exact h2 x (split_last hx)
theorem puts_good (r : List (PartN α)) : ∀ l : List (PartN α), Good l → (∀ p ∈ r, p.kind = kindN p.base p.ours p.theirs) → Good (r.foldl putN l) := by
  induction r with
  | nil => intro l h _; exact h
  | cons p r ih => intro l h hr; rw [List.foldl_cons]; exact ih _ (put_good h (hr p List.mem_cons_self)) (fun q hq => hr q (List.mem_cons_of_mem _ hq))
theorem segs_kind (F : List (Nat × Nat × Nat)) : ∀ (a b c : List α) (i j k : Nat), ∀ p ∈ segsN a b c i j k F, p.kind = kindN p.base p.ours p.theirs := by
  induction F with
  | nil => intro a b c i j k p hp; rw [segsN, List.mem_singleton] at hp; subst hp; rfl
  | cons f F ih =>
    intro a b c i j k p hp
    rw [segsN] at hp
    rcases List.mem_cons.1 hp with rfl | hp
    · rfl
    · rcases List.mem_cons.1 hp with rfl | hp
      · rfl
      · exact ih _ _ _ _ _ _ p hp
theorem merge_good (a b c : List α) : Good (mergeN a b c) := puts_good _ _ trivial (segs_kind _ _ _ _ _ _ _)
/-- A part with the sides turned about. -/
def swapN (p : PartN α) : PartN α := ⟨if p.kind = 1 then 2 else if p.kind = 2 then 1 else p.kind, p.base, p.theirs, p.ours⟩
theorem kind_swap (a b c : List α) : kindN a c b = (if kindN a b c = 1 then 2 else if kindN a b c = 2 then 1 else kindN a b c) := by
  unfold kindN
  by_cases h1 : a = b <;> by_cases h2 : a = c
  · subst h1; subst h2; simp
  · subst h1; simp [h2]
  · subst h2; simp [h1]
  · have h4 : (c = b) = (b = c) := propext eq_comm
    by_cases h3 : b = c
    · subst h3; simp [h1]
    · simp [h1, h2, h3, h4]
theorem swap_mk (a b c : List α) : swapN (mkN a b c) = mkN a c b := by
  show PartN.mk _ _ _ _ = PartN.mk _ _ _ _
  rw [kind_swap a b c]; rfl
theorem segs_swap (F : List (Nat × Nat × Nat)) : ∀ (a b c : List α) (i j k : Nat), segsN a c b i k j (F.map fun f => (f.1, f.2.2, f.2.1)) = (segsN a b c i j k F).map swapN := by
  induction F with
  | nil => intro a b c i j k; simp [segsN, swap_mk]
  | cons f F ih => intro a b c i j k; simp only [List.map_cons, segsN, swap_mk, ih]
omit [DecidableEq α] in
theorem swap_zero (p : PartN α) : (swapN p).kind = 0 ↔ p.kind = 0 := by
  show (if _ then _ else if _ then _ else _) = (0 : Int) ↔ _
  split
  · rename_i h; rw [h]; decide
  · split
    · rename_i h; rw [h]; decide
    · exact Iff.rfl
omit [DecidableEq α] in
theorem put_swap (l : List (PartN α)) (p : PartN α) : putN (l.map swapN) (swapN p) = (putN l p).map swapN := by
  have e0 : ((swapN p).base = [] ∧ (swapN p).ours = [] ∧ (swapN p).theirs = []) ↔ (p.base = [] ∧ p.ours = [] ∧ p.theirs = []) :=
    ⟨fun ⟨h1, h2, h3⟩ => ⟨h1, h3, h2⟩, fun ⟨h1, h2, h3⟩ => ⟨h1, h3, h2⟩⟩
  unfold putN
  by_cases h : p.base = [] ∧ p.ours = [] ∧ p.theirs = []
  · rw [if_pos h, if_pos (e0.2 h)]
  · rw [if_neg h, if_neg (fun k => h (e0.1 k)), List.getLast?_map]
    cases e : l.getLast? with
    | none => simp
    | some q =>
      simp only [Option.map_some]
      by_cases k : q.kind = 0 ∧ p.kind = 0
      · rw [if_pos k, if_pos ⟨(swap_zero q).2 k.1, (swap_zero p).2 k.2⟩, List.map_append, List.map_dropLast]
        congr 1
      · rw [if_neg k, if_neg (fun c => k ⟨(swap_zero q).1 c.1, (swap_zero p).1 c.2⟩), List.map_append]; rfl
omit [DecidableEq α] in
theorem puts_swap (r : List (PartN α)) : ∀ l : List (PartN α), (r.map swapN).foldl putN (l.map swapN) = (r.foldl putN l).map swapN := by
  induction r with
  | nil => intro l; rfl
  | cons p r ih => intro l; rw [List.map_cons, List.foldl_cons, List.foldl_cons, put_swap, ih]
theorem merge_swap (a b c : List α) : mergeN a c b = (mergeN a b c).map swapN := by
  unfold mergeN
  rw [fastN_swap, segs_swap]
  exact puts_swap _ []
end
end Go.Proofs.YtjlpdoppnhcjoaaDoor
namespace Go.Proofs.YtjlpdoppnhcjoaaDoor

section
variable {α : Type} [DecidableEq α]
theorem lcs_nil_tail (z : α) (b : List α) : lcs [z] (b ++ [z]) = 1 := by
  induction b with
  | nil => rw [List.nil_append, lcs_same]; rfl
  | cons y b ih =>
    by_cases h : z = y
    · subst h; rw [List.cons_append, lcs_same]; rfl
    · rw [List.cons_append, lcs_ne h, ih]; rfl
theorem lcs_tail_one (z : α) (a : List α) : ∀ b : List α, lcs (a ++ [z]) (b ++ [z]) = lcs a b + 1 := by
  induction a with
  | nil => intro b; rw [List.nil_append, lcs_nil_tail]; rfl
  | cons x a ih =>
    intro b
    induction b with
    | nil => rw [lcs_symm, List.nil_append, lcs_nil_tail, lcs_none]
    | cons y b ihb =>
      by_cases h : x = y
      · subst h; rw [List.cons_append, List.cons_append, lcs_same, lcs_same, ih]
      · have e1 := ih (y :: b)
        rw [List.cons_append] at e1 ihb
        rw [List.cons_append, List.cons_append, lcs_ne h, lcs_ne h, e1, ihb]
        rw [Nat.max_def, Nat.max_def]
        split <;> split <;> omega
/-- What both lists end with is common. -/
theorem lcs_tail (c : List α) : ∀ a b : List α, lcs (a ++ c) (b ++ c) = lcs a b + c.length := by
  induction c with
  | nil => intro a b; simp
  | cons z c ih =>
    intro a b
    have := ih (a ++ [z]) (b ++ [z])
    rw [List.append_assoc, List.append_assoc] at this
    rw [show a ++ z :: c = a ++ ([z] ++ c) from rfl, show b ++ z :: c = b ++ ([z] ++ c) from rfl, this, lcs_tail_one]
    simp; omega
/-- Where both lists end with the same lines, the first of which stands nowhere ahead, this is paired with itself. -/
theorem pairs_tail (m : α) (c a : List α) : ∀ (b : List α) (i j : Nat), m ∉ a → m ∉ b →
    pairsN (a ++ m :: c) i (b ++ m :: c) j = pairsN a i b j ++ (i + a.length, j + b.length) :: diag c.length (i + a.length + 1) (j + b.length + 1) := by
  have hd : ∀ i j : Nat, pairsN c i c j = diag c.length i j := fun i j => by
    have := pairsN_head c [] [] i j
    rw [List.append_nil] at this
    rw [this]; simp [pairsN_nil]
  induction a with
  | nil =>
    intro b
    induction b with
    | nil => intro i j _ _; simp only [List.nil_append, List.length_nil, Nat.add_zero]; rw [pairsN_same, hd]; rfl
    | cons y b ihb =>
      intro i j ha hb
      have hy : m ≠ y := fun e => hb (e ▸ List.mem_cons_self)
      have hb2 : m ∉ b := fun e => hb (List.mem_cons_of_mem _ e)
      have h1 : lcs c (y :: (b ++ m :: c)) ≠ lcs (m :: c) (y :: (b ++ m :: c)) := by
        have e := lcs_tail (m :: c) [] (y :: b)
        rw [List.nil_append, List.cons_append] at e
        have := (lcs_len c (y :: (b ++ m :: c))).1
        rw [e, lcs_nil]; simp; omega
      rw [List.nil_append, List.cons_append, pairsN_right hy h1]
      have := ihb i (j + 1) ha hb2
      rw [List.nil_append] at this
      rw [this, pairsN_nil, pairsN_nil]
      simp only [List.length_cons, List.nil_append, List.length_nil]
      rw [show j + 1 + b.length = j + (b.length + 1) from by omega]
  | cons x a ih =>
    intro b
    induction b with
    | nil =>
      intro i j ha hb
      have hx : x ≠ m := fun e => ha (e ▸ List.mem_cons_self)
      have ha2 : m ∉ a := fun e => ha (List.mem_cons_of_mem _ e)
      have h1 : lcs (a ++ m :: c) (m :: c) = lcs (x :: (a ++ m :: c)) (m :: c) := by
        have e1 := lcs_tail (m :: c) a []
        have e2 := lcs_tail (m :: c) (x :: a) []
        rw [List.nil_append] at e1 e2
        rw [List.cons_append] at e2
        rw [e1, e2, lcs_none, lcs_none]
      rw [List.nil_append, List.cons_append, pairsN_down hx h1]
      have := ih [] (i + 1) j ha2 hb
      rw [List.nil_append] at this
      rw [this, pairsN_none, pairsN_none]
      simp only [List.length_cons, List.nil_append, List.length_nil]
      rw [show i + 1 + a.length = i + (a.length + 1) from by omega]
    | cons y b ihb =>
      intro i j ha hb
      have ha2 : m ∉ a := fun e => ha (List.mem_cons_of_mem _ e)
      have hb2 : m ∉ b := fun e => hb (List.mem_cons_of_mem _ e)
      by_cases h : x = y
      · subst h
        rw [List.cons_append, List.cons_append, pairsN_same, pairsN_same, ih b _ _ ha2 hb2]
        simp only [List.length_cons, List.cons_append]
        rw [show i + 1 + a.length = i + (a.length + 1) from by omega, show j + 1 + b.length = j + (b.length + 1) from by omega]
      · have e1 := lcs_tail (m :: c) a (y :: b)
        have e2 := lcs_tail (m :: c) (x :: a) (y :: b)
        rw [List.cons_append] at e1 e2
        rw [List.cons_append] at e2
        have f1 := ih (y :: b) (i + 1) j ha2 hb
        have f2 := ihb i (j + 1) ha hb2
        rw [List.cons_append] at f1 f2
        rw [List.cons_append, List.cons_append]
        by_cases h2 : lcs a (y :: b) = lcs (x :: a) (y :: b)
        · rw [pairsN_down h (by rw [e1, e2, h2]), pairsN_down h h2, f1]
          simp only [List.length_cons]
          rw [show i + 1 + a.length = i + (a.length + 1) from by omega]
        · rw [pairsN_right h (by rw [e1, e2]; omega), pairsN_right h h2, f2]
          simp only [List.length_cons]
          rw [show j + 1 + b.length = j + (b.length + 1) from by omega]
/-- The first places of pairs, all from a place on, ahead of another. -/
def FirstIn (i n : Nat) (o : List (Nat × Nat)) : Prop := ∀ p ∈ o, i ≤ p.1 ∧ p.1 < n
theorem pairs_in (a : List α) : ∀ (b : List α) (i j : Nat), ∀ p ∈ pairsN a i b j, i ≤ p.1 ∧ p.1 < i + a.length := by
  induction a with
  | nil => intro b i j p hp; cases hp
  | cons x a ih =>
    intro b
    induction b with
    | nil => intro i j p hp; rw [pairsN_none] at hp; cases hp
    | cons y b ihb =>
      intro i j p hp
      rw [List.length_cons]
      by_cases h : x = y
      · subst h
        rw [pairsN_same] at hp
        rcases List.mem_cons.1 hp with rfl | hp
        · exact ⟨Nat.le_refl _, by show i < _; omega⟩
        · have := ih _ _ _ p hp; omega
      · by_cases h2 : lcs a (y :: b) = lcs (x :: a) (y :: b)
        · rw [pairsN_down h h2] at hp; have := ih _ _ _ p hp; omega
        · rw [pairsN_right h h2] at hp
          have := ihb _ _ p hp
          rw [List.length_cons] at this; exact this
theorem diag_in (n : Nat) : ∀ i j : Nat, ∀ p ∈ diag n i j, i ≤ p.1 ∧ p.1 < i + n := by
  induction n with
  | zero => intro i j p hp; cases hp
  | succ n ih =>
    intro i j p hp
    rcases List.mem_cons.1 hp with rfl | hp
    · exact ⟨Nat.le_refl _, by show i < _; omega⟩
    · have := ih _ _ p hp; omega
omit [DecidableEq α] in
/-- Of places of which one list has each, those of the other stand fast. -/
theorem fast_diag (o : List (Nat × Nat)) : ∀ (n i k : Nat), (∀ p ∈ o, i ≤ p.1 ∧ p.1 < i + n) → (o.Pairwise fun p q => p.1 < q.1) → fastN o (diag n i k) = o.map fun p => (p.1, p.2, k + (p.1 - i)) := by
  induction o with
  | nil => intro n i k _ _; rfl
  | cons o os ih =>
    intro n
    induction n with
    | zero => intro i k h _; have := h o List.mem_cons_self; omega
    | succ n ihn =>
      intro i k h hp
      obtain ⟨hp1, hp2⟩ := List.pairwise_cons.1 hp
      have h0 := h o List.mem_cons_self
      show fastN (o :: os) ((i, k) :: diag n (i + 1) (k + 1)) = _
      by_cases e : o.1 = i
      · rw [fastN_eq (show o.1 = (i, k).1 from e), ih n (i + 1) (k + 1) (fun p hp => ⟨by have := hp1 p hp; omega, by have := (h p (List.mem_cons_of_mem _ hp)).2; omega⟩) hp2, List.map_cons, e]
        simp only [Nat.sub_self, Nat.add_zero]
        congr 1
        apply List.map_congr_left
        intro p hp
        have := hp1 p hp
        rw [show k + 1 + (p.1 - (i + 1)) = k + (p.1 - i) from by omega]
      · rw [fastN_gt (show (i, k).1 < o.1 from by show i < o.1; omega), ihn (i + 1) (k + 1) (fun p hp => by
          have := h p hp
          rcases List.mem_cons.1 hp with rfl | hp
          · omega
          · have := hp1 p hp; omega) hp]
        apply List.map_congr_left
        intro p hp
        have : i + 1 ≤ p.1 := by
          rcases List.mem_cons.1 hp with rfl | hp
          · omega
          · have := hp1 p hp; omega
        rw [show k + 1 + (p.1 - (i + 1)) = k + (p.1 - i) from by omega]
theorem pairs_sorted (a : List α) : ∀ (b : List α) (i j : Nat), (pairsN a i b j).Pairwise fun p q => p.1 < q.1 := by
  induction a with
  | nil => intro b i j; exact List.Pairwise.nil
  | cons x a ih =>
    intro b
    induction b with
    | nil => intro i j; rw [pairsN_none]; exact List.Pairwise.nil
    | cons y b ihb =>
      intro i j
      by_cases h : x = y
      · subst h
        rw [pairsN_same]
        exact List.pairwise_cons.2 ⟨fun p hp => by have := (pairs_in _ _ _ _ p hp).1; exact this, ih _ _ _⟩
      · by_cases h2 : lcs a (y :: b) = lcs (x :: a) (y :: b)
        · rw [pairsN_down h h2]; exact ih _ _ _
        · rw [pairsN_right h h2]; exact ihb _ _
/-- Both lists cut at one first place. -/
theorem fast_cut {c u v : Nat} (o2 t2 : List (Nat × Nat)) (o1 : List (Nat × Nat)) : ∀ t1 : List (Nat × Nat), (∀ p ∈ o1, p.1 < c) → (∀ p ∈ t1, p.1 < c) →
    fastN (o1 ++ (c, u) :: o2) (t1 ++ (c, v) :: t2) = fastN o1 t1 ++ (c, u, v) :: fastN o2 t2 := by
  induction o1 with
  | nil =>
    intro t1
    induction t1 with
    | nil => intro _ _; exact fastN_eq (o := (c, u)) (t := (c, v)) rfl _ _
    | cons t t1 iht =>
      intro ho ht
      have h := ht t List.mem_cons_self
      have := iht ho (fun p hp => ht p (List.mem_cons_of_mem _ hp))
      rw [List.nil_append] at this ⊢
      rw [List.cons_append, fastN_gt (show t.1 < (c, u).1 from h), this]; rfl
  | cons o o1 ih =>
    intro t1
    induction t1 with
    | nil =>
      intro ho ht
      have h := ho o List.mem_cons_self
      have := ih [] (fun p hp => ho p (List.mem_cons_of_mem _ hp)) ht
      rw [List.nil_append] at this ⊢
      rw [List.cons_append, fastN_lt (show o.1 < (c, v).1 from h), this, fastN_none, fastN_none]
    | cons t t1 iht =>
      intro ho ht
      have ho2 := fun p hp => ho p (List.mem_cons_of_mem _ hp)
      have ht2 := fun p hp => ht p (List.mem_cons_of_mem _ hp)
      rw [List.cons_append, List.cons_append]
      rcases Nat.lt_trichotomy o.1 t.1 with h | h | h
      · rw [fastN_lt h, fastN_lt h]; exact ih (t :: t1) ho2 ht
      · rw [fastN_eq h, fastN_eq h, ih t1 ho2 ht2]; rfl
      · rw [fastN_gt h, fastN_gt h]; exact iht ho ht2
end
end Go.Proofs.YtjlpdoppnhcjoaaDoor
namespace Go.Proofs.YtjlpdoppnhcjoaaDoor

/-- Lines, so that a mark can stand behind the last of them. -/
def closedN (l : List (List UInt8)) : List (List UInt8) :=
  match l.getLast? with
  | none => l
  | some x => if x.getLast? = some 10 then l else l.dropLast ++ [x ++ [10]]
/-- The lines of one part: head and foot are the marks' lines. -/
def text1 (head foot : List UInt8) (p : PartN (List UInt8)) : List (List UInt8) :=
  if p.kind = 0 ∨ p.kind = 1 ∨ p.kind = 3 then p.ours else if p.kind = 2 then p.theirs else
    [head] ++ closedN p.ours ++ [[124, 124, 124, 124, 124, 124, 124, 32, 98, 97, 115, 101, 10]] ++ closedN p.base ++ [[61, 61, 61, 61, 61, 61, 61, 10]] ++ closedN p.theirs ++ [foot]
/-- Is it no conflict? -/
def calm1 {α : Type} (p : PartN α) : Bool := decide (p.kind = 0 ∨ p.kind = 1 ∨ p.kind = 3 ∨ p.kind = 2)
def textN (head foot : List UInt8) (l : List (PartN (List UInt8))) : List (List UInt8) := l.flatMap (text1 head foot)
def calmN {α : Type} (l : List (PartN α)) : Bool := l.all calm1
abbrev Line := List UInt8
theorem calm_put {α : Type} {l : List (PartN α)} {p : PartN α} (hp : p.base = [] ∧ p.ours = [] ∧ p.theirs = [] → calm1 p = true) : calmN (putN l p) = (calmN l && calm1 p) := by
  unfold calmN
  rcases putN_cases l p with ⟨h, e⟩ | ⟨q, _, h2, h3, h4, e⟩ | ⟨_, _, e⟩
  · rw [e, hp h, Bool.and_true]
  · have e1 : calm1 (⟨q.kind, q.base ++ p.base, q.ours ++ p.ours, q.theirs ++ p.theirs⟩ : PartN α) = calm1 q := rfl
    have e2 : calm1 p = true := by unfold calm1; rw [h4]; rfl
    rw [e, e2, Bool.and_true]
    conv => rhs; rw [h2]
    rw [List.all_append, List.all_append]; simp [e1]
  · rw [e, List.all_append]; simp
theorem calm_puts {α : Type} (r : List (PartN α)) (hr : ∀ p ∈ r, p.base = [] ∧ p.ours = [] ∧ p.theirs = [] → calm1 p = true) : ∀ l : List (PartN α), calmN (r.foldl putN l) = (calmN l && calmN r) := by
  induction r with
  | nil => intro l; unfold calmN; simp
  | cons p r ih =>
    intro l
    rw [List.foldl_cons, ih (fun q hq => hr q (List.mem_cons_of_mem _ hq)), calm_put (hr p List.mem_cons_self)]
    unfold calmN
    rw [List.all_cons, Bool.and_assoc]
theorem text_put {head foot : Line} {l : List (PartN Line)} {p : PartN Line} (hp : p.base = [] ∧ p.ours = [] ∧ p.theirs = [] → text1 head foot p = []) : textN head foot (putN l p) = textN head foot l ++ text1 head foot p := by
  unfold textN
  rcases putN_cases l p with ⟨h, e⟩ | ⟨q, _, h2, h3, h4, e⟩ | ⟨_, _, e⟩
  · rw [e, hp h, List.append_nil]
  · have e1 : text1 head foot (⟨q.kind, q.base ++ p.base, q.ours ++ p.ours, q.theirs ++ p.theirs⟩ : PartN Line) = text1 head foot q ++ text1 head foot p := by
      unfold text1; simp [h3, h4]
    rw [e]
    conv => rhs; rw [h2]
    simp [e1]
  · rw [e]; simp
theorem text_puts {head foot : Line} (r : List (PartN Line)) (hr : ∀ p ∈ r, p.base = [] ∧ p.ours = [] ∧ p.theirs = [] → text1 head foot p = []) : ∀ l : List (PartN Line), textN head foot (r.foldl putN l) = textN head foot l ++ textN head foot r := by
  induction r with
  | nil => intro l; unfold textN; simp
  | cons p r ih =>
    intro l
    rw [List.foldl_cons, ih (fun q hq => hr q (List.mem_cons_of_mem _ hq)), text_put (hr p List.mem_cons_self)]
    unfold textN
    rw [List.flatMap_cons, List.append_assoc]
theorem none_calm {α : Type} [DecidableEq α] {p : PartN α} (hk : p.kind = kindN p.base p.ours p.theirs) (h : p.base = [] ∧ p.ours = [] ∧ p.theirs = []) : p.kind = 0 := by
  rw [hk, h.1, h.2.1, h.2.2]; exact kind_zero.2 ⟨rfl, rfl⟩
theorem none_text {head foot : Line} {p : PartN Line} (hk : p.kind = kindN p.base p.ours p.theirs) (h : p.base = [] ∧ p.ours = [] ∧ p.theirs = []) : text1 head foot p = [] := by
  unfold text1; rw [none_calm hk h, if_pos (Or.inl rfl), h.2.1]
/-- The text of a merge is that of the parts between and at the places that stand fast. -/
theorem merge_text (head foot : Line) (a b c : List Line) : textN head foot (mergeN a b c) = textN head foot (segsN a b c 0 0 0 (fastN (pairsN a 0 b 0) (pairsN a 0 c 0))) := by
  unfold mergeN
  rw [text_puts _ (fun p hp h => none_text (segs_kind _ _ _ _ _ _ _ p hp) h)]; rfl
theorem merge_calm {α : Type} [DecidableEq α] (a b c : List α) : calmN (mergeN a b c) = calmN (segsN a b c 0 0 0 (fastN (pairsN a 0 b 0) (pairsN a 0 c 0))) := by
  unfold mergeN
  rw [calm_puts _ (fun p hp h => by unfold calm1; rw [none_calm (segs_kind _ _ _ _ _ _ _ p hp) h]; rfl)]; rfl
/-- A part whose text is ours, or theirs. -/
theorem mk_ours (head foot : Line) (a b : List Line) : text1 head foot (mkN a b a) = b ∧ calm1 (mkN a b a) = true := by
  have hk : (mkN a b a).kind = 0 ∨ (mkN a b a).kind = 1 := by
    show kindN a b a = 0 ∨ kindN a b a = 1
    unfold kindN; split
    · exact Or.inl rfl
    · rw [if_pos rfl]; exact Or.inr rfl
  constructor
  · unfold text1
    rw [if_pos (by rcases hk with h | h <;> simp [h])]; rfl
  · unfold calm1; rcases hk with h | h <;> rw [h] <;> rfl
theorem mk_theirs (head foot : Line) (a c : List Line) : text1 head foot (mkN a a c) = c ∧ calm1 (mkN a a c) = true := by
  by_cases h : a = c
  · subst h; exact mk_ours head foot a a
  · have hk : (mkN a a c).kind = 2 := by
      show kindN a a c = 2
      unfold kindN; simp [h]
    constructor
    · unfold text1; rw [hk]; rfl
    · unfold calm1; rw [hk]; rfl
theorem mk_both (head foot : Line) (a b : List Line) : text1 head foot (mkN a b b) = b ∧ calm1 (mkN a b b) = true := by
  by_cases h : a = b
  · subst h; exact mk_ours head foot a a
  · have hk : (mkN a b b).kind = 3 := by
      show kindN a b b = 3
      unfold kindN; simp [h]
    constructor
    · unfold text1; rw [hk]; rfl
    · unfold calm1; rw [hk]; rfl
theorem mk_ours_c (a b : List Line) : calm1 (mkN a b a) = true := (mk_ours [] [] a b).2
theorem mk_theirs_c (a c : List Line) : calm1 (mkN a a c) = true := (mk_theirs [] [] a c).2
theorem mk_both_c (a b : List Line) : calm1 (mkN a b b) = true := (mk_both [] [] a b).2
theorem text_cons (head foot : Line) (p : PartN Line) (r : List (PartN Line)) : textN head foot (p :: r) = text1 head foot p ++ textN head foot r := by unfold textN; simp
theorem calm_cons {α : Type} (p : PartN α) (r : List (PartN α)) : calmN (p :: r) = (calm1 p && calmN r) := by unfold calmN; simp
theorem segs_ours (head foot : Line) (F : List (Nat × Nat × Nat)) : ∀ (a b : List Line) (i j : Nat), (∀ f ∈ F, f.2.2 = f.1) → textN head foot (segsN a b a i j i F) = b ∧ calmN (segsN a b a i j i F) = true := by
  induction F with
  | nil => intro a b i j _; simp only [segsN, text_cons, calm_cons, mk_ours, mk_ours_c]; simp [textN, calmN]
  | cons f F ih =>
    intro a b i j h
    have e := h f List.mem_cons_self
    simp only [segsN, e]
    obtain ⟨h1, h2⟩ := ih ((a.drop (f.1 - i)).drop 1) ((b.drop (f.2.1 - j)).drop 1) (f.1 + 1) (f.2.1 + 1) (fun g hg => h g (List.mem_cons_of_mem _ hg))
    simp only [text_cons, calm_cons, mk_ours, mk_ours_c, h1, h2, Bool.and_self, and_true]; rw [List.take_append_drop, List.take_append_drop]
theorem segs_theirs (head foot : Line) (F : List (Nat × Nat × Nat)) : ∀ (a c : List Line) (i j k : Nat), (∀ f ∈ F, f.2.1 + i = f.1 + j) → textN head foot (segsN a a c i j k F) = c ∧ calmN (segsN a a c i j k F) = true := by
  induction F with
  | nil => intro a c i j k _; simp only [segsN, text_cons, calm_cons, mk_theirs, mk_theirs_c]; simp [textN, calmN]
  | cons f F ih =>
    intro a c i j k h
    have e := h f List.mem_cons_self
    have e2 : f.2.1 - j = f.1 - i := by omega
    simp only [segsN, e2]
    obtain ⟨h1, h2⟩ := ih ((a.drop (f.1 - i)).drop 1) ((c.drop (f.2.2 - k)).drop 1) (f.1 + 1) (f.2.1 + 1) (f.2.2 + 1) (fun g hg => by have := h g (List.mem_cons_of_mem _ hg); omega)
    simp only [text_cons, calm_cons, mk_theirs, mk_theirs_c, h1, h2, Bool.and_self, and_true]; rw [List.take_append_drop, List.take_append_drop]
theorem segs_both (head foot : Line) (F : List (Nat × Nat × Nat)) : ∀ (a b : List Line) (i j : Nat), (∀ f ∈ F, f.2.2 = f.2.1) → textN head foot (segsN a b b i j j F) = b ∧ calmN (segsN a b b i j j F) = true := by
  induction F with
  | nil => intro a b i j _; simp only [segsN, text_cons, calm_cons, mk_both, mk_both_c]; simp [textN, calmN]
  | cons f F ih =>
    intro a b i j h
    have e := h f List.mem_cons_self
    simp only [segsN, e]
    obtain ⟨h1, h2⟩ := ih ((a.drop (f.1 - i)).drop 1) ((b.drop (f.2.1 - j)).drop 1) (f.1 + 1) (f.2.1 + 1) (fun g hg => h g (List.mem_cons_of_mem _ hg))
    simp only [text_cons, calm_cons, mk_both, mk_both_c, h1, h2, Bool.and_self, and_true]; rw [List.take_append_drop, List.take_append_drop]
theorem pairs_self (a : List Line) (i j : Nat) : pairsN a i a j = diag a.length i j := by
  have := pairsN_head a [] [] i j
  rw [List.append_nil] at this
  rw [this]; simp [pairsN_nil]
theorem fast_self (o : List (Nat × Nat)) (h : o.Pairwise fun p q => p.1 < q.1) : fastN o o = o.map fun p => (p.1, p.2, p.2) := by
  induction o with
  | nil => rfl
  | cons p r ih => rw [fastN_eq rfl, ih (List.pairwise_cons.1 h).2]; rfl
/-- Where theirs is the base, ours is the merge. -/
theorem side_ours (head foot : Line) (a b : List Line) : textN head foot (mergeN a b a) = b ∧ calmN (mergeN a b a) = true := by
  rw [merge_text, merge_calm]
  apply segs_ours
  rw [pairs_self, fast_diag _ a.length 0 0 (fun p hp => by have := pairs_in a b 0 0 p hp; omega) (pairs_sorted _ _ _ _)]
  intro f hf
  obtain ⟨p, _, rfl⟩ := List.mem_map.1 hf
  show 0 + (p.1 - 0) = p.1
  omega
theorem side_theirs (head foot : Line) (a c : List Line) : textN head foot (mergeN a a c) = c ∧ calmN (mergeN a a c) = true := by
  rw [merge_text, merge_calm]
  apply segs_theirs
  rw [pairs_self, fastN_swap, fast_diag _ a.length 0 0 (fun p hp => by have := pairs_in a c 0 0 p hp; omega) (pairs_sorted _ _ _ _)]
  intro f hf
  obtain ⟨g, hg, rfl⟩ := List.mem_map.1 hf
  obtain ⟨p, _, rfl⟩ := List.mem_map.1 hg
  show 0 + (p.1 - 0) + 0 = p.1 + 0
  omega
theorem side_both (head foot : Line) (a b : List Line) : textN head foot (mergeN a b b) = b ∧ calmN (mergeN a b b) = true := by
  rw [merge_text, merge_calm]
  apply segs_both
  rw [fast_self _ (pairs_sorted _ _ _ _)]
  intro f hf
  obtain ⟨p, _, rfl⟩ := List.mem_map.1 hf
  rfl
/-- Places within bounds. -/
def In3 (A B C : Nat) : Nat → Nat → Nat → List (Nat × Nat × Nat) → Prop
  | _, _, _, [] => True
  | i, j, k, f :: r => i ≤ f.1 ∧ j ≤ f.2.1 ∧ k ≤ f.2.2 ∧ f.1 < A ∧ f.2.1 < B ∧ f.2.2 < C ∧ In3 A B C (f.1 + 1) (f.2.1 + 1) (f.2.2 + 1) r
theorem FastOk.within {a b c : List Line} : ∀ {F : List (Nat × Nat × Nat)} {i j k : Nat}, FastOk a b c i j k F → In3 a.length b.length c.length i j k F
  | [], _, _, _, _ => trivial
  | _ :: _, _, _, _, ⟨h1, h2, h3, h4, h5, h6, _, _, h9⟩ => ⟨h1, h2, h3, h4, h5, h6, h9.within⟩
theorem cut_at (m : Line) (X Y : List Line) (n : Nat) (hn : n < X.length) : (X ++ m :: Y).take n = X.take n ∧ ((X ++ m :: Y).drop n).take 1 = (X.drop n).take 1 ∧ ((X ++ m :: Y).drop n).drop 1 = (X.drop n).drop 1 ++ m :: Y := by
  refine ⟨List.take_append_of_le_length (by omega), ?_, ?_⟩
  · rw [List.drop_append_of_le_length (by omega), List.take_append_of_le_length (by simp; omega)]
  · rw [List.drop_append_of_le_length (by omega), List.drop_append_of_le_length (by simp; omega)]
theorem segs_cut (m : Line) (L2 : List (Nat × Nat × Nat)) (Y0 Y1 Y2 : List Line) (A B C : Nat) (L1 : List (Nat × Nat × Nat)) : ∀ (X0 X1 X2 : List Line) (i j k : Nat), i + X0.length = A → j + X1.length = B → k + X2.length = C → In3 A B C i j k L1 →
    segsN (X0 ++ m :: Y0) (X1 ++ m :: Y1) (X2 ++ m :: Y2) i j k (L1 ++ (A, B, C) :: L2) =
      segsN X0 X1 X2 i j k L1 ++ mkN [m] [m] [m] :: segsN Y0 Y1 Y2 (A + 1) (B + 1) (C + 1) L2 := by
  induction L1 with
  | nil =>
    intro X0 X1 X2 i j k hA hB hC _
    subst hA hB hC
    simp [segsN, Nat.add_sub_cancel_left]
  | cons f L1 ih =>
    intro X0 X1 X2 i j k hA hB hC ⟨h1, h2, h3, h4, h5, h6, h7⟩
    obtain ⟨a1, a2, a3⟩ := cut_at m X0 Y0 (f.1 - i) (by omega)
    obtain ⟨b1, b2, b3⟩ := cut_at m X1 Y1 (f.2.1 - j) (by omega)
    obtain ⟨c1, c2, c3⟩ := cut_at m X2 Y2 (f.2.2 - k) (by omega)
    rw [List.cons_append, segsN, segsN, a1, a2, a3, b1, b2, b3, c1, c2, c3, ih _ _ _ (f.1 + 1) (f.2.1 + 1) (f.2.2 + 1) (by simp; omega) (by simp; omega) (by simp; omega) h7]
    rfl
theorem text_app (head foot : Line) (l r : List (PartN Line)) : textN head foot (l ++ r) = textN head foot l ++ textN head foot r := by unfold textN; simp
theorem calm_app {α : Type} (l r : List (PartN α)) : calmN (l ++ r) = (calmN l && calmN r) := by unfold calmN; simp
/-- Changes on either side of a line that nobody touched are both made. -/
theorem apart (head foot : Line) (m : Line) (a0 a1 b0 b1 : List Line) (h0 : m ∉ a0) (h1 : m ∉ a1) :
    textN head foot (mergeN (a0 ++ m :: b0) (a1 ++ m :: b0) (a0 ++ m :: b1)) = a1 ++ m :: b1 ∧ calmN (mergeN (a0 ++ m :: b0) (a1 ++ m :: b0) (a0 ++ m :: b1)) = true := by
  have ho := pairs_tail m b0 a0 a1 0 0 h0 h1
  have ht : pairsN (a0 ++ m :: b0) 0 (a0 ++ m :: b1) 0 = diag a0.length 0 0 ++ (0 + a0.length, 0 + a0.length) :: pairsN b0 (0 + a0.length + 1) b1 (0 + a0.length + 1) := by
    rw [pairsN_head, pairsN_same]
  have hF := fast_cut (c := 0 + a0.length) (u := 0 + a1.length) (v := 0 + a0.length) (diag b0.length (0 + a0.length + 1) (0 + a1.length + 1)) (pairsN b0 (0 + a0.length + 1) b1 (0 + a0.length + 1)) (pairsN a0 0 a1 0) (diag a0.length 0 0)
    (fun p hp => (pairs_in a0 a1 0 0 p hp).2) (fun p hp => (diag_in _ _ _ p hp).2)
  have h3 : FastOk a0 a1 a0 0 0 0 (fastN (pairsN a0 0 a1 0) (diag a0.length 0 0)) := fast_ok a0 a1 a0 _ _ 0 0 0 (pairs_ok a0 a1) (by rw [← pairs_self a0]; exact pairs_ok a0 a0)
  have hs := segs_cut m (fastN (diag b0.length (0 + a0.length + 1) (0 + a1.length + 1)) (pairsN b0 (0 + a0.length + 1) b1 (0 + a0.length + 1))) b0 b0 b1 (0 + a0.length) (0 + a1.length) (0 + a0.length) (fastN (pairsN a0 0 a1 0) (diag a0.length 0 0)) a0 a1 a0 0 0 0 rfl rfl rfl (by simpa using h3.within)
  rw [merge_text, merge_calm, ho, ht, hF, hs]
  obtain ⟨t1, t2⟩ := segs_ours head foot (fastN (pairsN a0 0 a1 0) (diag a0.length 0 0)) a0 a1 0 0 (by
    rw [fast_diag _ a0.length 0 0 (fun p hp => by have := pairs_in a0 a1 0 0 p hp; omega) (pairs_sorted _ _ _ _)]
    intro f hf
    obtain ⟨p, _, rfl⟩ := List.mem_map.1 hf
    show 0 + (p.1 - 0) = p.1
    omega)
  obtain ⟨u1, u2⟩ := segs_theirs head foot (fastN (diag b0.length (0 + a0.length + 1) (0 + a1.length + 1)) (pairsN b0 (0 + a0.length + 1) b1 (0 + a0.length + 1))) b0 b1 (0 + a0.length + 1) (0 + a1.length + 1) (0 + a0.length + 1) (by
    rw [fastN_swap, fast_diag _ b0.length _ _ (fun p hp => pairs_in b0 b1 _ _ p hp) (pairs_sorted _ _ _ _)]
    intro f hf
    obtain ⟨g, hg, rfl⟩ := List.mem_map.1 hf
    obtain ⟨p, hp, rfl⟩ := List.mem_map.1 hg
    have := (pairs_in _ _ _ _ p hp).1
    show 0 + a1.length + 1 + (p.1 - (0 + a0.length + 1)) + (0 + a0.length + 1) = p.1 + (0 + a1.length + 1)
    omega)
  rw [text_app, calm_app, text_cons, calm_cons, t1, t2, u1, u2, (mk_ours head foot [m] [m]).1, mk_ours_c]
  exact ⟨rfl, rfl⟩
end Go.Proofs.YtjlpdoppnhcjoaaDoor
namespace Go.Proofs.YtjlpdoppnhcjoaaDoor

def EndsB (x : Line) : Prop := x.getLast? = some 10
/-- Lines, none empty, each of which ends, but perhaps the last. -/
structure Lined (l : List Line) : Prop where
  ne : ∀ x ∈ l, x ≠ []
  ends : ∀ x r y, l = r ++ x :: y → y ≠ [] → EndsB x
/-- Lines that all end. -/
def AllEnd (l : List Line) : Prop := ∀ x ∈ l, EndsB x
theorem EndsB.ne {x : Line} (h : EndsB x) : x ≠ [] := by rintro rfl; cases h
theorem AllEnd.lined {l : List Line} (h : AllEnd l) : Lined l := ⟨fun x hx => (h x hx).ne, fun x r y e _ => h x (by rw [e]; simp)⟩
theorem Lined.append {l r : List Line} (h1 : AllEnd l) (h2 : Lined r) : Lined (l ++ r) := by
  refine ⟨fun x hx => ?_, fun x u y e hy => ?_⟩
  · rcases List.mem_append.1 hx with hx | hx
    · exact (h1 x hx).ne
    · exact h2.ne x hx
  · rcases List.append_eq_append_iff.1 e with ⟨c, e1, e2⟩ | ⟨c, e1, e2⟩
    · exact h2.ends x c y e2 hy
    · cases c with
      | nil => exact h2.ends x [] y (by simpa using e2.symm) hy
      | cons z c =>
        injection e2 with e2 _
        subst e2
        exact h1 x (by rw [e1]; simp)
theorem Lined.drop {l : List Line} (h : Lined l) (n : Nat) : Lined (l.drop n) := by
  refine ⟨fun x hx => h.ne x (List.mem_of_mem_drop hx), fun x r y e hy => h.ends x (l.take n ++ r) y ?_ hy⟩
  rw [List.append_assoc, ← e, List.take_append_drop]
theorem Lined.ahead {l r : List Line} (h : Lined (l ++ r)) (hr : r ≠ []) : AllEnd l := by
  intro x hx
  obtain ⟨s, t, e⟩ := List.append_of_mem hx
  exact h.ends x s (t ++ r) (by rw [e]; simp) (by simp [hr])
theorem lined_nil : Lined [] := ⟨fun _ h => (by cases h), fun x r y e _ => by simp at e⟩
theorem closed_all {l : List Line} (h : Lined l) : AllEnd (closedN l) := by
  unfold closedN
  cases e : l.getLast? with
  | none =>
    rw [List.getLast?_eq_none_iff] at e
    subst e
    intro x hx; cases hx
  | some z =>
    have hne : l ≠ [] := by rintro rfl; cases e
    rw [List.getLast?_eq_some_getLast hne] at e
    injection e with e
    have e2 : l = l.dropLast ++ [z] := by rw [← e, List.dropLast_concat_getLast]
    have hd : AllEnd l.dropLast := by rw [e2] at h; exact h.ahead (by simp)
    show AllEnd (if z.getLast? = some 10 then l else l.dropLast ++ [z ++ [10]])
    split
    · rename_i hz
      intro x hx
      rw [e2] at hx
      rcases List.mem_append.1 hx with hx | hx
      · exact hd x hx
      · rw [List.mem_singleton] at hx; subst hx; exact hz
    · intro x hx
      rcases List.mem_append.1 hx with hx | hx
      · exact hd x hx
      · rw [List.mem_singleton] at hx; subst hx; unfold EndsB; simp
theorem AllEnd.app {l r : List Line} (h1 : AllEnd l) (h2 : AllEnd r) : AllEnd (l ++ r) := fun x hx => (List.mem_append.1 hx).elim (h1 x) (h2 x)
theorem AllEnd.one {x : Line} (h : EndsB x) : AllEnd [x] := fun y hy => by rw [List.mem_singleton] at hy; rw [hy]; exact h
theorem text1_cases (head foot : Line) (p : PartN Line) : text1 head foot p = p.ours ∨ text1 head foot p = p.theirs ∨ (text1 head foot p =
    [head] ++ closedN p.ours ++ [[124, 124, 124, 124, 124, 124, 124, 32, 98, 97, 115, 101, 10]] ++ closedN p.base ++ [[61, 61, 61, 61, 61, 61, 61, 10]] ++ closedN p.theirs ++ [foot] ∧ calm1 p = false) := by
  unfold text1
  split
  · exact Or.inl rfl
  · rename_i h1
    split
    · exact Or.inr (Or.inl rfl)
    · rename_i h2
      refine Or.inr (Or.inr ⟨rfl, ?_⟩)
      unfold calm1
      exact decide_eq_false (fun h => by rcases h with h | h | h | h; exact h1 (Or.inl h); exact h1 (Or.inr (Or.inl h)); exact h1 (Or.inr (Or.inr h)); exact h2 h)
theorem ends_base : EndsB [124, 124, 124, 124, 124, 124, 124, 32, 98, 97, 115, 101, 10] := rfl
theorem ends_mid : EndsB [61, 61, 61, 61, 61, 61, 61, 10] := rfl
theorem text1_lined {head foot : Line} (hh : EndsB head) (hf : EndsB foot) {a b c : List Line} (ha : Lined a) (hb : Lined b) (hc : Lined c) : Lined (text1 head foot (mkN a b c)) := by
  rcases text1_cases head foot (mkN a b c) with e | e | ⟨e, _⟩
  · rw [e]; exact hb
  · rw [e]; exact hc
  · rw [e]
    exact ((((((AllEnd.one hh).app (closed_all hb)).app (AllEnd.one ends_base)).app (closed_all ha)).app (AllEnd.one ends_mid)).app (closed_all hc)).app (AllEnd.one hf) |>.lined
theorem text1_all {head foot : Line} (hh : EndsB head) (hf : EndsB foot) {a b c : List Line} (ha : AllEnd a) (hb : AllEnd b) (hc : AllEnd c) : AllEnd (text1 head foot (mkN a b c)) := by
  rcases text1_cases head foot (mkN a b c) with e | e | ⟨e, _⟩
  · rw [e]; exact hb
  · rw [e]; exact hc
  · rw [e]
    exact ((((((AllEnd.one hh).app (closed_all hb.lined)).app (AllEnd.one ends_base)).app (closed_all ha.lined)).app (AllEnd.one ends_mid)).app (closed_all hc.lined)).app (AllEnd.one hf)
theorem segs_lined {head foot : Line} (hh : EndsB head) (hf : EndsB foot) {a b c : List Line} (ha : Lined a) (hb : Lined b) (hc : Lined c) (F : List (Nat × Nat × Nat)) : ∀ i j k : Nat, FastOk a b c i j k F →
    Lined (textN head foot (segsN (a.drop i) (b.drop j) (c.drop k) i j k F)) := by
  induction F with
  | nil =>
    intro i j k _
    rw [segsN, text_cons]
    unfold textN
    rw [List.flatMap_nil, List.append_nil]
    exact text1_lined hh hf (ha.drop i) (hb.drop j) (hc.drop k)
  | cons f F ih =>
    intro i j k ⟨h1, h2, h3, h4, h5, h6, h7, h8, h9⟩
    obtain ⟨x, hx⟩ : ∃ x, a[f.1]? = some x := ⟨_, List.getElem?_eq_getElem h4⟩
    have da := drop_one hx
    have db := drop_one (h7.symm.trans hx)
    have dc := drop_one (h8.symm.trans hx)
    have split3 : ∀ {l : List Line} {n m : Nat}, n ≤ m → l.drop n = (l.drop n).take (m - n) ++ l.drop m := fun {l n m} h => by
      conv => lhs; rw [← List.take_append_drop (m - n) (l.drop n), List.drop_drop, show n + (m - n) = m from by omega]
    have ea := split3 (l := a) h1
    have eb := split3 (l := b) h2
    have ec := split3 (l := c) h3
    have la := ha.drop i
    have lb := hb.drop j
    have lc := hc.drop k
    rw [ea, da] at la
    rw [eb, db] at lb
    rw [ec, dc] at lc
    have A1 := la.ahead (by simp)
    have B1 := lb.ahead (by simp)
    have C1 := lc.ahead (by simp)
    rw [segsN, List.drop_drop, List.drop_drop, List.drop_drop, show i + (f.1 - i) = f.1 from by omega, show j + (f.2.1 - j) = f.2.1 from by omega, show k + (f.2.2 - k) = f.2.2 from by omega, List.drop_drop, List.drop_drop, List.drop_drop, text_cons, text_cons, da, db, dc]
    have t1 := text1_all hh hf A1 B1 C1
    have e1 : text1 head foot (mkN ((x :: a.drop (f.1 + 1)).take 1) ((x :: b.drop (f.2.1 + 1)).take 1) ((x :: c.drop (f.2.2 + 1)).take 1)) = [x] := (mk_ours head foot [x] [x]).1
    rw [e1]
    have hr := ih _ _ _ h9
    by_cases hE : a.drop (f.1 + 1) = [] ∧ b.drop (f.2.1 + 1) = [] ∧ c.drop (f.2.2 + 1) = []
    · obtain ⟨n1, n2, n3⟩ := hE
      have hF : F = [] := by
        cases F with
        | nil => rfl
        | cons g F =>
          exfalso
          obtain ⟨g1, _, _, g4, _⟩ := h9
          rw [List.drop_eq_nil_iff] at n1
          omega
      rw [hF, n1, n2, n3]
      have e2 : textN head foot (segsN [] [] [] (f.1 + 1) (f.2.1 + 1) (f.2.2 + 1) []) = [] := by
        rw [segsN, text_cons, (mk_ours head foot [] []).1]; rfl
      rw [e2, List.append_nil]
      refine Lined.append t1 ⟨fun y hy => ?_, fun y r z e hz => ?_⟩
      · rw [List.mem_singleton] at hy; subst hy; exact la.ne _ (by simp)
      · have := congrArg List.length e
        have hzl := List.length_pos_iff.2 hz
        simp at this; omega
    · have hxE : EndsB x := by
        by_cases n1 : a.drop (f.1 + 1) = []
        · by_cases n2 : b.drop (f.2.1 + 1) = []
          · exact lc.ends x _ _ rfl (fun n3 => hE ⟨n1, n2, n3⟩)
          · exact lb.ends x _ _ rfl n2
        · exact la.ends x _ _ rfl n1
      exact Lined.append t1 (Lined.append (AllEnd.one hxE) hr)
theorem merge_lined {head foot : Line} (hh : EndsB head) (hf : EndsB foot) {a b c : List Line} (ha : Lined a) (hb : Lined b) (hc : Lined c) : Lined (textN head foot (mergeN a b c)) := by
  rw [merge_text]
  exact segs_lined hh hf ha hb hc _ 0 0 0 (fast_ok a b c _ _ 0 0 0 (pairs_ok a b) (pairs_ok a c))
/-- How many conflicts parts have. -/
def clashN {α : Type} (l : List (PartN α)) : Nat := l.countP fun p => p.kind == 4
theorem kind_le {α : Type} [DecidableEq α] (a b c : List α) : kindN a b c = 0 ∨ kindN a b c = 1 ∨ kindN a b c = 2 ∨ kindN a b c = 3 ∨ kindN a b c = 4 := by
  unfold kindN; repeat' split
  all_goals simp
theorem good_all {α : Type} [DecidableEq α] {l : List (PartN α)} (h : Good l) : ∀ p ∈ l, GoodPart p := by
  induction l with
  | nil => intro p hp; cases hp
  | cons q r ih =>
    intro p hp
    rcases List.mem_cons.1 hp with rfl | hp
    · exact h.1
    · exact ih h.2.2 p hp
theorem good_calm {α : Type} [DecidableEq α] {l : List (PartN α)} (h : ∀ p ∈ l, GoodPart p) : calmN l = decide (clashN l = 0) := by
  induction l with
  | nil => rfl
  | cons p r ih =>
    rw [calm_cons, ih (fun q hq => h q (List.mem_cons_of_mem _ hq))]
    unfold clashN
    rw [List.countP_cons]
    have hk := kind_le p.base p.ours p.theirs
    rw [← (h p List.mem_cons_self).1] at hk
    unfold calm1
    rcases hk with e | e | e | e | e <;> rw [e] <;> simp
theorem clash_marks (head foot : Line) (l : List (PartN Line)) : clashN l ≤ (textN head foot l).count [61, 61, 61, 61, 61, 61, 61, 10] := by
  induction l with
  | nil => exact Nat.zero_le _
  | cons p r ih =>
    rw [text_cons, List.count_append]
    unfold clashN at ih ⊢
    rw [List.countP_cons]
    by_cases e : p.kind = 4
    · have : 1 ≤ (text1 head foot p).count [61, 61, 61, 61, 61, 61, 61, 10] := by
        rw [List.one_le_count_iff]
        unfold text1
        rw [e]; simp
      simp only [e, BEq.rfl, if_true]; omega
    · have : (p.kind == 4) = false := beq_eq_false_iff_ne.2 e
      simp only [this]; simp; omega
theorem text1_len {head foot : Line} {p : PartN Line} (h : ¬ (p.base = [] ∧ p.ours = [] ∧ p.theirs = [])) : (text1 head foot p).length ≤ 5 * (p.base.length + p.ours.length + p.theirs.length) ∧ (calm1 p = true → (text1 head foot p).length ≤ p.base.length + p.ours.length + p.theirs.length) := by
  have hc : ∀ l : List Line, (closedN l).length = l.length := fun l => by
    unfold closedN
    cases e : l.getLast? with
    | none => rfl
    | some z =>
      have hne : 0 < l.length := List.length_pos_iff.2 (by rintro rfl; cases e)
      show (if _ then _ else _ : List Line).length = _
      split
      · rfl
      · simp; omega
  have hpos : 0 < p.base.length + p.ours.length + p.theirs.length := by
    rcases Nat.eq_zero_or_pos (p.base.length + p.ours.length + p.theirs.length) with e | e
    · exact absurd ⟨List.length_eq_zero_iff.1 (by omega), List.length_eq_zero_iff.1 (by omega), List.length_eq_zero_iff.1 (by omega)⟩ h
    · exact e
  rcases text1_cases head foot p with e | e | ⟨e, hcalm⟩
  · rw [e]; exact ⟨by omega, fun _ => by omega⟩
  · rw [e]; exact ⟨by omega, fun _ => by omega⟩
  · rw [e]
    simp only [List.length_append, hc, List.length_cons, List.length_nil]
    exact ⟨by omega, fun k => by rw [hcalm] at k; cases k⟩
theorem flat_len {α β : Type} (f : α → List β) (g : α → Nat) (n : Nat) (l : List α) (h : ∀ x ∈ l, (f x).length ≤ n * g x) : (l.flatMap f).length ≤ n * (l.map g).sum := by
  induction l with
  | nil => simp
  | cons x r ih =>
    rw [List.flatMap_cons, List.length_append, List.map_cons, List.sum_cons, Nat.mul_add]
    have := h x List.mem_cons_self
    have := ih (fun y hy => h y (List.mem_cons_of_mem _ hy))
    omega
theorem lens_sum {α : Type} (l : List (PartN α)) : (l.map fun p => p.base.length + p.ours.length + p.theirs.length).sum = (l.flatMap PartN.base).length + (l.flatMap PartN.ours).length + (l.flatMap PartN.theirs).length := by
  induction l with
  | nil => rfl
  | cons p r ih => simp only [List.map_cons, List.sum_cons, ih, List.flatMap_cons, List.length_append]; omega
/-- How long the text of a merge is. -/
theorem merge_len (head foot : Line) (a b c : List Line) : (textN head foot (mergeN a b c)).length ≤ 5 * (a.length + b.length + c.length) ∧ (calmN (mergeN a b c) = true → (textN head foot (mergeN a b c)).length ≤ a.length + b.length + c.length) := by
  obtain ⟨f1, f2, f3⟩ := merge_flat a b c
  have hs := lens_sum (mergeN a b c)
  rw [f1, f2, f3] at hs
  rw [← hs]
  have hg := good_all (merge_good a b c)
  refine ⟨flat_len _ _ 5 _ (fun p hp => (text1_len (hg p hp).2).1), fun hc => ?_⟩
  have := flat_len (text1 head foot) (fun p : PartN Line => p.base.length + p.ours.length + p.theirs.length) 1 (mergeN a b c) (fun p hp => by
    rw [Nat.one_mul]; exact (text1_len (hg p hp).2).2 (List.all_eq_true.1 hc p hp))
  rw [Nat.one_mul] at this
  exact this
/-- How many lines stand fast in parts. -/
def steadyN {α : Type} (l : List (PartN α)) : List α := l.flatMap fun p => if p.kind = 0 then p.base else []
theorem flat_sub {α β : Type} {f g : α → List β} {l : List α} (h : ∀ x ∈ l, (f x).Sublist (g x)) : (l.flatMap f).Sublist (l.flatMap g) := by
  induction l with
  | nil => exact List.Sublist.refl _
  | cons x r ih => rw [List.flatMap_cons, List.flatMap_cons]; exact (h x List.mem_cons_self).append (ih (fun y hy => h y (List.mem_cons_of_mem _ hy)))
theorem steady_lcs (head foot : Line) (a b c : List Line) : (steadyN (mergeN a b c)).length ≤ lcs a (textN head foot (mergeN a b c)) := by
  have hg := good_all (merge_good a b c)
  apply sub_lcs
  · conv => rhs; rw [← (merge_flat a b c).1]
    exact flat_sub (fun p _ => by
      by_cases h : p.kind = 0
      · rw [if_pos h]; exact List.Sublist.refl _
      · rw [if_neg h]; exact List.nil_sublist _)
  · exact flat_sub (fun p hp => by
      by_cases h : p.kind = 0
      · rw [if_pos h]
        obtain ⟨e1, e2⟩ := kind_zero.1 ((hg p hp).1.symm.trans h)
        unfold text1
        rw [if_pos (Or.inl h), ← e1]
        exact List.Sublist.refl _
      · rw [if_neg h]; exact List.nil_sublist _)
/-- Both ways the same text, where there is no conflict. -/
theorem swap_text {head foot head' foot' : Line} {l : List (PartN Line)} (hg : ∀ p ∈ l, GoodPart p) (hc : calmN l = true) : textN head' foot' (l.map swapN) = textN head foot l := by
  induction l with
  | nil => rfl
  | cons p r ih =>
    rw [calm_cons, Bool.and_eq_true] at hc
    rw [List.map_cons, text_cons, text_cons, ih (fun q hq => hg q (List.mem_cons_of_mem _ hq)) hc.2]
    congr 1
    have hk := hg p List.mem_cons_self
    have h := hk.1
    have hcalm := hc.1
    unfold calm1 at hcalm
    rcases of_decide_eq_true hcalm with e | e | e | e
    · rw [e] at h
      obtain ⟨e1, e2⟩ := kind_zero.1 h.symm
      unfold text1 swapN
      simp [e, ← e1, ← e2]
    · unfold text1 swapN; simp [e]
    · have : p.ours = p.theirs := by
        rw [e] at h
        unfold kindN at h
        repeat' split at h
        all_goals first | assumption | (exfalso; revert h; decide)
      unfold text1 swapN
      simp [e, this]
    · unfold text1 swapN; simp [e]
theorem swap_calm {α : Type} (l : List (PartN α)) : calmN (l.map swapN) = calmN l := by
  induction l with
  | nil => rfl
  | cons p r ih =>
    rw [List.map_cons, calm_cons, calm_cons, ih]
    congr 1
    unfold calm1 swapN
    apply decide_eq_decide.2
    show ((if p.kind = 1 then (2 : Int) else if p.kind = 2 then 1 else p.kind) = 0 ∨ _) ↔ _
    by_cases h1 : p.kind = 1
    · simp [h1]
    · by_cases h2 : p.kind = 2
      · simp [h2]
      · simp [h1, h2]
theorem swap_swap {α : Type} (p : PartN α) : swapN (swapN p) = p := by
  obtain ⟨k, a, b, c⟩ := p
  show PartN.mk (if (if k = 1 then (2 : Int) else if k = 2 then 1 else k) = 1 then (2 : Int) else if (if k = 1 then (2 : Int) else if k = 2 then 1 else k) = 2 then 1 else (if k = 1 then (2 : Int) else if k = 2 then 1 else k)) a b c = _
  by_cases h1 : k = 1
  · subst h1; rfl
  · by_cases h2 : k = 2
    · subst h2; rfl
    · simp only [if_neg h1, if_neg h2]
end Go.Proofs.YtjlpdoppnhcjoaaDoor
