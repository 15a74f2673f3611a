/- The text that parts make: where one side is the base, where both are alike, where changes stand apart. -/
import Derived.Test.YtfiogjdjcocbnaaWeavB
namespace Go.Proofs.Ytfiogjdjcocbnaa

/-- Lines, so that a mark can stand behind the last of them. -/
def closedN (l : List (List UInt8)) : List (List UInt8) :=
  match l.getLast? with
  | none => l
  | some x => if x.getLast? = some 10 then l else l.dropLast ++ [x ++ [10]]
/-- The lines of one part: head and foot are the marks' lines. -/
def text1 (head foot : List UInt8) (p : PartN (List UInt8)) : List (List UInt8) :=
  if p.kind = 0 ∨ p.kind = 1 ∨ p.kind = 3 then p.ours else if p.kind = 2 then p.theirs else
    [head] ++ closedN p.ours ++ [[124, 124, 124, 124, 124, 124, 124, 32, 98, 97, 115, 101, 10]] ++ closedN p.base ++ [[61, 61, 61, 61, 61, 61, 61, 10]] ++ closedN p.theirs ++ [foot]
/-- Is it no conflict? -/
def calm1 {α : Type} (p : PartN α) : Bool := decide (p.kind = 0 ∨ p.kind = 1 ∨ p.kind = 3 ∨ p.kind = 2)
def textN (head foot : List UInt8) (l : List (PartN (List UInt8))) : List (List UInt8) := l.flatMap (text1 head foot)
def calmN {α : Type} (l : List (PartN α)) : Bool := l.all calm1
abbrev Line := List UInt8
theorem calm_put {α : Type} {l : List (PartN α)} {p : PartN α} (hp : p.base = [] ∧ p.ours = [] ∧ p.theirs = [] → calm1 p = true) : calmN (putN l p) = (calmN l && calm1 p) := by
  unfold calmN
  rcases putN_cases l p with ⟨h, e⟩ | ⟨q, _, h2, h3, h4, e⟩ | ⟨_, _, e⟩
  · rw [e, hp h, Bool.and_true]
  · have e1 : calm1 (⟨q.kind, q.base ++ p.base, q.ours ++ p.ours, q.theirs ++ p.theirs⟩ : PartN α) = calm1 q := rfl
    have e2 : calm1 p = true := by unfold calm1; rw [h4]; rfl
    rw [e, e2, Bool.and_true]
    conv => rhs; rw [h2]
    rw [List.all_append, List.all_append]; simp [e1]
  · rw [e, List.all_append]; simp
theorem calm_puts {α : Type} (r : List (PartN α)) (hr : ∀ p ∈ r, p.base = [] ∧ p.ours = [] ∧ p.theirs = [] → calm1 p = true) : ∀ l : List (PartN α), calmN (r.foldl putN l) = (calmN l && calmN r) := by
  induction r with
  | nil => intro l; unfold calmN; simp
  | cons p r ih =>
    intro l
    rw [List.foldl_cons, ih (fun q hq => hr q (List.mem_cons_of_mem _ hq)), calm_put (hr p List.mem_cons_self)]
    unfold calmN
    rw [List.all_cons, Bool.and_assoc]
theorem text_put {head foot : Line} {l : List (PartN Line)} {p : PartN Line} (hp : p.base = [] ∧ p.ours = [] ∧ p.theirs = [] → text1 head foot p = []) : textN head foot (putN l p) = textN head foot l ++ text1 head foot p := by
  unfold textN
  rcases putN_cases l p with ⟨h, e⟩ | ⟨q, _, h2, h3, h4, e⟩ | ⟨_, _, e⟩
  · rw [e, hp h, List.append_nil]
  · have e1 : text1 head foot (⟨q.kind, q.base ++ p.base, q.ours ++ p.ours, q.theirs ++ p.theirs⟩ : PartN Line) = text1 head foot q ++ text1 head foot p := by
      unfold text1; simp [h3, h4]
    rw [e]
    conv => rhs; rw [h2]
    simp [e1]
  · rw [e]; simp
theorem text_puts {head foot : Line} (r : List (PartN Line)) (hr : ∀ p ∈ r, p.base = [] ∧ p.ours = [] ∧ p.theirs = [] → text1 head foot p = []) : ∀ l : List (PartN Line), textN head foot (r.foldl putN l) = textN head foot l ++ textN head foot r := by
  induction r with
  | nil => intro l; unfold textN; simp
  | cons p r ih =>
    intro l
    rw [List.foldl_cons, ih (fun q hq => hr q (List.mem_cons_of_mem _ hq)), text_put (hr p List.mem_cons_self)]
    unfold textN
    rw [List.flatMap_cons, List.append_assoc]
theorem none_calm {α : Type} [DecidableEq α] {p : PartN α} (hk : p.kind = kindN p.base p.ours p.theirs) (h : p.base = [] ∧ p.ours = [] ∧ p.theirs = []) : p.kind = 0 := by
  rw [hk, h.1, h.2.1, h.2.2]; exact kind_zero.2 ⟨rfl, rfl⟩
theorem none_text {head foot : Line} {p : PartN Line} (hk : p.kind = kindN p.base p.ours p.theirs) (h : p.base = [] ∧ p.ours = [] ∧ p.theirs = []) : text1 head foot p = [] := by
  unfold text1; rw [none_calm hk h, if_pos (Or.inl rfl), h.2.1]
/-- The text of a merge is that of the parts between and at the places that stand fast. -/
theorem merge_text (head foot : Line) (a b c : List Line) : textN head foot (mergeN a b c) = textN head foot (segsN a b c 0 0 0 (fastN (pairsN a 0 b 0) (pairsN a 0 c 0))) := by
  unfold mergeN
  rw [text_puts _ (fun p hp h => none_text (segs_kind _ _ _ _ _ _ _ p hp) h)]; rfl
theorem merge_calm {α : Type} [DecidableEq α] (a b c : List α) : calmN (mergeN a b c) = calmN (segsN a b c 0 0 0 (fastN (pairsN a 0 b 0) (pairsN a 0 c 0))) := by
  unfold mergeN
  rw [calm_puts _ (fun p hp h => by unfold calm1; rw [none_calm (segs_kind _ _ _ _ _ _ _ p hp) h]; rfl)]; rfl
/-- A part whose text is ours, or theirs. -/
theorem mk_ours (head foot : Line) (a b : List Line) : text1 head foot (mkN a b a) = b ∧ calm1 (mkN a b a) = true := by
  have hk : (mkN a b a).kind = 0 ∨ (mkN a b a).kind = 1 := by
    show kindN a b a = 0 ∨ kindN a b a = 1
    unfold kindN; split
    · exact Or.inl rfl
    · rw [if_pos rfl]; exact Or.inr rfl
  constructor
  · unfold text1
    rw [if_pos (by rcases hk with h | h <;> simp [h])]; rfl
  · unfold calm1; rcases hk with h | h <;> rw [h] <;> rfl
theorem mk_theirs (head foot : Line) (a c : List Line) : text1 head foot (mkN a a c) = c ∧ calm1 (mkN a a c) = true := by
  by_cases h : a = c
  · subst h; exact mk_ours head foot a a
  · have hk : (mkN a a c).kind = 2 := by
      show kindN a a c = 2
      unfold kindN; simp [h]
    constructor
    · unfold text1; rw [hk]; rfl
    · unfold calm1; rw [hk]; rfl
theorem mk_both (head foot : Line) (a b : List Line) : text1 head foot (mkN a b b) = b ∧ calm1 (mkN a b b) = true := by
  by_cases h : a = b
  · subst h; exact mk_ours head foot a a
  · have hk : (mkN a b b).kind = 3 := by
      show kindN a b b = 3
      unfold kindN; simp [h]
    constructor
    · unfold text1; rw [hk]; rfl
    · unfold calm1; rw [hk]; rfl
theorem mk_ours_c (a b : List Line) : calm1 (mkN a b a) = true := (mk_ours [] [] a b).2
theorem mk_theirs_c (a c : List Line) : calm1 (mkN a a c) = true := (mk_theirs [] [] a c).2
theorem mk_both_c (a b : List Line) : calm1 (mkN a b b) = true := (mk_both [] [] a b).2
theorem text_cons (head foot : Line) (p : PartN Line) (r : List (PartN Line)) : textN head foot (p :: r) = text1 head foot p ++ textN head foot r := by unfold textN; simp
theorem calm_cons {α : Type} (p : PartN α) (r : List (PartN α)) : calmN (p :: r) = (calm1 p && calmN r) := by unfold calmN; simp
theorem segs_ours (head foot : Line) (F : List (Nat × Nat × Nat)) : ∀ (a b : List Line) (i j : Nat), (∀ f ∈ F, f.2.2 = f.1) → textN head foot (segsN a b a i j i F) = b ∧ calmN (segsN a b a i j i F) = true := by
  induction F with
  | nil => intro a b i j _; simp only [segsN, text_cons, calm_cons, mk_ours, mk_ours_c]; simp [textN, calmN]
  | cons f F ih =>
    intro a b i j h
    have e := h f List.mem_cons_self
    simp only [segsN, e]
    obtain ⟨h1, h2⟩ := ih ((a.drop (f.1 - i)).drop 1) ((b.drop (f.2.1 - j)).drop 1) (f.1 + 1) (f.2.1 + 1) (fun g hg => h g (List.mem_cons_of_mem _ hg))
    simp only [text_cons, calm_cons, mk_ours, mk_ours_c, h1, h2, Bool.and_self, and_true]; rw [List.take_append_drop, List.take_append_drop]
theorem segs_theirs (head foot : Line) (F : List (Nat × Nat × Nat)) : ∀ (a c : List Line) (i j k : Nat), (∀ f ∈ F, f.2.1 + i = f.1 + j) → textN head foot (segsN a a c i j k F) = c ∧ calmN (segsN a a c i j k F) = true := by
  induction F with
  | nil => intro a c i j k _; simp only [segsN, text_cons, calm_cons, mk_theirs, mk_theirs_c]; simp [textN, calmN]
  | cons f F ih =>
    intro a c i j k h
    have e := h f List.mem_cons_self
    have e2 : f.2.1 - j = f.1 - i := by omega
    simp only [segsN, e2]
    obtain ⟨h1, h2⟩ := ih ((a.drop (f.1 - i)).drop 1) ((c.drop (f.2.2 - k)).drop 1) (f.1 + 1) (f.2.1 + 1) (f.2.2 + 1) (fun g hg => by have := h g (List.mem_cons_of_mem _ hg); omega)
    simp only [text_cons, calm_cons, mk_theirs, mk_theirs_c, h1, h2, Bool.and_self, and_true]; rw [List.take_append_drop, List.take_append_drop]
theorem segs_both (head foot : Line) (F : List (Nat × Nat × Nat)) : ∀ (a b : List Line) (i j : Nat), (∀ f ∈ F, f.2.2 = f.2.1) → textN head foot (segsN a b b i j j F) = b ∧ calmN (segsN a b b i j j F) = true := by
  induction F with
  | nil => intro a b i j _; simp only [segsN, text_cons, calm_cons, mk_both, mk_both_c]; simp [textN, calmN]
  | cons f F ih =>
    intro a b i j h
    have e := h f List.mem_cons_self
    simp only [segsN, e]
    obtain ⟨h1, h2⟩ := ih ((a.drop (f.1 - i)).drop 1) ((b.drop (f.2.1 - j)).drop 1) (f.1 + 1) (f.2.1 + 1) (fun g hg => h g (List.mem_cons_of_mem _ hg))
    simp only [text_cons, calm_cons, mk_both, mk_both_c, h1, h2, Bool.and_self, and_true]; rw [List.take_append_drop, List.take_append_drop]
theorem pairs_self (a : List Line) (i j : Nat) : pairsN a i a j = diag a.length i j := by
  have := pairsN_head a [] [] i j
  rw [List.append_nil] at this
  rw [this]; simp [pairsN_nil]
theorem fast_self (o : List (Nat × Nat)) (h : o.Pairwise fun p q => p.1 < q.1) : fastN o o = o.map fun p => (p.1, p.2, p.2) := by
  induction o with
  | nil => rfl
  | cons p r ih => rw [fastN_eq rfl, ih (List.pairwise_cons.1 h).2]; rfl
/-- Where theirs is the base, ours is the merge. -/
theorem side_ours (head foot : Line) (a b : List Line) : textN head foot (mergeN a b a) = b ∧ calmN (mergeN a b a) = true := by
  rw [merge_text, merge_calm]
  apply segs_ours
  rw [pairs_self, fast_diag _ a.length 0 0 (fun p hp => by have := pairs_in a b 0 0 p hp; omega) (pairs_sorted _ _ _ _)]
  intro f hf
  obtain ⟨p, _, rfl⟩ := List.mem_map.1 hf
  show 0 + (p.1 - 0) = p.1
  omega
theorem side_theirs (head foot : Line) (a c : List Line) : textN head foot (mergeN a a c) = c ∧ calmN (mergeN a a c) = true := by
  rw [merge_text, merge_calm]
  apply segs_theirs
  rw [pairs_self, fastN_swap, fast_diag _ a.length 0 0 (fun p hp => by have := pairs_in a c 0 0 p hp; omega) (pairs_sorted _ _ _ _)]
  intro f hf
  obtain ⟨g, hg, rfl⟩ := List.mem_map.1 hf
  obtain ⟨p, _, rfl⟩ := List.mem_map.1 hg
  show 0 + (p.1 - 0) + 0 = p.1 + 0
  omega
theorem side_both (head foot : Line) (a b : List Line) : textN head foot (mergeN a b b) = b ∧ calmN (mergeN a b b) = true := by
  rw [merge_text, merge_calm]
  apply segs_both
  rw [fast_self _ (pairs_sorted _ _ _ _)]
  intro f hf
  obtain ⟨p, _, rfl⟩ := List.mem_map.1 hf
  rfl
/-- Places within bounds. -/
def In3 (A B C : Nat) : Nat → Nat → Nat → List (Nat × Nat × Nat) → Prop
  | _, _, _, [] => True
  | i, j, k, f :: r => i ≤ f.1 ∧ j ≤ f.2.1 ∧ k ≤ f.2.2 ∧ f.1 < A ∧ f.2.1 < B ∧ f.2.2 < C ∧ In3 A B C (f.1 + 1) (f.2.1 + 1) (f.2.2 + 1) r
theorem FastOk.within {a b c : List Line} : ∀ {F : List (Nat × Nat × Nat)} {i j k : Nat}, FastOk a b c i j k F → In3 a.length b.length c.length i j k F
  | [], _, _, _, _ => trivial
  | _ :: _, _, _, _, ⟨h1, h2, h3, h4, h5, h6, _, _, h9⟩ => ⟨h1, h2, h3, h4, h5, h6, h9.within⟩
theorem cut_at (m : Line) (X Y : List Line) (n : Nat) (hn : n < X.length) : (X ++ m :: Y).take n = X.take n ∧ ((X ++ m :: Y).drop n).take 1 = (X.drop n).take 1 ∧ ((X ++ m :: Y).drop n).drop 1 = (X.drop n).drop 1 ++ m :: Y := by
  refine ⟨List.take_append_of_le_length (by omega), ?_, ?_⟩
  · rw [List.drop_append_of_le_length (by omega), List.take_append_of_le_length (by simp; omega)]
  · rw [List.drop_append_of_le_length (by omega), List.drop_append_of_le_length (by simp; omega)]
theorem segs_cut (m : Line) (L2 : List (Nat × Nat × Nat)) (Y0 Y1 Y2 : List Line) (A B C : Nat) (L1 : List (Nat × Nat × Nat)) : ∀ (X0 X1 X2 : List Line) (i j k : Nat), i + X0.length = A → j + X1.length = B → k + X2.length = C → In3 A B C i j k L1 →
    segsN (X0 ++ m :: Y0) (X1 ++ m :: Y1) (X2 ++ m :: Y2) i j k (L1 ++ (A, B, C) :: L2) =
      segsN X0 X1 X2 i j k L1 ++ mkN [m] [m] [m] :: segsN Y0 Y1 Y2 (A + 1) (B + 1) (C + 1) L2 := by
  induction L1 with
  | nil =>
    intro X0 X1 X2 i j k hA hB hC _
    subst hA hB hC
    simp [segsN, Nat.add_sub_cancel_left]
  | cons f L1 ih =>
    intro X0 X1 X2 i j k hA hB hC ⟨h1, h2, h3, h4, h5, h6, h7⟩
    obtain ⟨a1, a2, a3⟩ := cut_at m X0 Y0 (f.1 - i) (by omega)
    obtain ⟨b1, b2, b3⟩ := cut_at m X1 Y1 (f.2.1 - j) (by omega)
    obtain ⟨c1, c2, c3⟩ := cut_at m X2 Y2 (f.2.2 - k) (by omega)
    rw [List.cons_append, segsN, segsN, a1, a2, a3, b1, b2, b3, c1, c2, c3, ih _ _ _ (f.1 + 1) (f.2.1 + 1) (f.2.2 + 1) (by simp; omega) (by simp; omega) (by simp; omega) h7]
    rfl
theorem text_app (head foot : Line) (l r : List (PartN Line)) : textN head foot (l ++ r) = textN head foot l ++ textN head foot r := by unfold textN; simp
theorem calm_app {α : Type} (l r : List (PartN α)) : calmN (l ++ r) = (calmN l && calmN r) := by unfold calmN; simp
/-- Changes on either side of a line that nobody touched are both made. -/
theorem apart (head foot : Line) (m : Line) (a0 a1 b0 b1 : List Line) (h0 : m ∉ a0) (h1 : m ∉ a1) :
    textN head foot (mergeN (a0 ++ m :: b0) (a1 ++ m :: b0) (a0 ++ m :: b1)) = a1 ++ m :: b1 ∧ calmN (mergeN (a0 ++ m :: b0) (a1 ++ m :: b0) (a0 ++ m :: b1)) = true := by
  have ho := pairs_tail m b0 a0 a1 0 0 h0 h1
  have ht : pairsN (a0 ++ m :: b0) 0 (a0 ++ m :: b1) 0 = diag a0.length 0 0 ++ (0 + a0.length, 0 + a0.length) :: pairsN b0 (0 + a0.length + 1) b1 (0 + a0.length + 1) := by
    rw [pairsN_head, pairsN_same]
  have hF := fast_cut (c := 0 + a0.length) (u := 0 + a1.length) (v := 0 + a0.length) (diag b0.length (0 + a0.length + 1) (0 + a1.length + 1)) (pairsN b0 (0 + a0.length + 1) b1 (0 + a0.length + 1)) (pairsN a0 0 a1 0) (diag a0.length 0 0)
    (fun p hp => (pairs_in a0 a1 0 0 p hp).2) (fun p hp => (diag_in _ _ _ p hp).2)
  have h3 : FastOk a0 a1 a0 0 0 0 (fastN (pairsN a0 0 a1 0) (diag a0.length 0 0)) := fast_ok a0 a1 a0 _ _ 0 0 0 (pairs_ok a0 a1) (by rw [← pairs_self a0]; exact pairs_ok a0 a0)
  have hs := segs_cut m (fastN (diag b0.length (0 + a0.length + 1) (0 + a1.length + 1)) (pairsN b0 (0 + a0.length + 1) b1 (0 + a0.length + 1))) b0 b0 b1 (0 + a0.length) (0 + a1.length) (0 + a0.length) (fastN (pairsN a0 0 a1 0) (diag a0.length 0 0)) a0 a1 a0 0 0 0 rfl rfl rfl (by simpa using h3.within)
  rw [merge_text, merge_calm, ho, ht, hF, hs]
  obtain ⟨t1, t2⟩ := segs_ours head foot (fastN (pairsN a0 0 a1 0) (diag a0.length 0 0)) a0 a1 0 0 (by
    rw [fast_diag _ a0.length 0 0 (fun p hp => by have := pairs_in a0 a1 0 0 p hp; omega) (pairs_sorted _ _ _ _)]
    intro f hf
    obtain ⟨p, _, rfl⟩ := List.mem_map.1 hf
    show 0 + (p.1 - 0) = p.1
    omega)
  obtain ⟨u1, u2⟩ := segs_theirs head foot (fastN (diag b0.length (0 + a0.length + 1) (0 + a1.length + 1)) (pairsN b0 (0 + a0.length + 1) b1 (0 + a0.length + 1))) b0 b1 (0 + a0.length + 1) (0 + a1.length + 1) (0 + a0.length + 1) (by
    rw [fastN_swap, fast_diag _ b0.length _ _ (fun p hp => pairs_in b0 b1 _ _ p hp) (pairs_sorted _ _ _ _)]
    intro f hf
    obtain ⟨g, hg, rfl⟩ := List.mem_map.1 hf
    obtain ⟨p, hp, rfl⟩ := List.mem_map.1 hg
    have := (pairs_in _ _ _ _ p hp).1
    show 0 + a1.length + 1 + (p.1 - (0 + a0.length + 1)) + (0 + a0.length + 1) = p.1 + (0 + a1.length + 1)
    omega)
  rw [text_app, calm_app, text_cons, calm_cons, t1, t2, u1, u2, (mk_ours head foot [m] [m]).1, mk_ours_c]
  exact ⟨rfl, rfl⟩
end Go.Proofs.Ytfiogjdjcocbnaa
