/- What patterns mean: items of which each means one thing, or any number; the row of places; one way back. Mathematics. -/
import Derived.RowKit
namespace Go.Proofs.YthigepjddfdbmaaDoor

/-- Items, each of which means one thing by a test, or any number of things (none). -/
inductive Mt {α : Type} : List (Option (α → Bool)) → List α → Prop
  | nil : Mt [] []
  | one {f : α → Bool} {a : α} {r : List (Option (α → Bool))} {l : List α} : f a = true → Mt r l → Mt (some f :: r) (a :: l)
  | skip {r : List (Option (α → Bool))} {l : List α} : Mt r l → Mt (none :: r) l
  | more {r : List (Option (α → Bool))} {a : α} {l : List α} : Mt (none :: r) l → Mt (none :: r) (a :: l)
section
variable {α : Type}
theorem mt_nil {l : List α} : Mt [] l ↔ l = [] := ⟨fun h => by cases h; rfl, fun h => by subst h; exact .nil⟩
theorem mt_one {f : α → Bool} {r : List (Option (α → Bool))} {l : List α} : Mt (some f :: r) l ↔ ∃ a t, l = a :: t ∧ f a = true ∧ Mt r t :=
  ⟨fun h => by cases h with | one h1 h2 => exact ⟨_, _, rfl, h1, h2⟩, fun ⟨_, _, e, h1, h2⟩ => by subst e; exact .one h1 h2⟩
theorem mt_one_cons {f : α → Bool} {r : List (Option (α → Bool))} {a : α} {l : List α} : Mt (some f :: r) (a :: l) ↔ f a = true ∧ Mt r l := by
  rw [mt_one]
  exact ⟨fun ⟨_, _, e, h1, h2⟩ => by injection e with e1 e2; subst e1 e2; exact ⟨h1, h2⟩, fun ⟨h1, h2⟩ => ⟨_, _, rfl, h1, h2⟩⟩
theorem mt_one_nil {f : α → Bool} {r : List (Option (α → Bool))} : ¬ Mt (some f :: r) [] := fun h => by cases h
theorem mt_many_nil {r : List (Option (α → Bool))} : Mt (none :: r) [] ↔ Mt r [] := ⟨fun h => by cases h with | skip h => exact h, .skip⟩
theorem mt_many_cons {r : List (Option (α → Bool))} {a : α} {l : List α} : Mt (none :: r) (a :: l) ↔ Mt r (a :: l) ∨ Mt (none :: r) l :=
  ⟨fun h => by cases h with
    | skip h => exact Or.inl h
    | more h => exact Or.inr h, fun h => h.elim .skip .more⟩
theorem mt_many {r : List (Option (α → Bool))} : ∀ {l : List α}, Mt (none :: r) l ↔ ∃ a b, l = a ++ b ∧ Mt r b
  | [] => by
    rw [mt_many_nil]
    exact ⟨fun h => ⟨[], [], rfl, h⟩, fun ⟨a, b, e, h⟩ => by
      have := List.append_eq_nil_iff.1 e.symm
      rw [this.2] at h; exact h⟩
  | x :: l => by
    rw [mt_many_cons, mt_many (l := l)]
    constructor
    · rintro (h | ⟨a, b, rfl, h⟩)
      · exact ⟨[], _, rfl, h⟩
      · exact ⟨x :: a, b, rfl, h⟩
    · rintro ⟨a, b, e, h⟩
      cases a with
      | nil => left; rw [List.nil_append] at e; rw [e]; exact h
      | cons y a =>
        injection e with e1 e2
        exact Or.inr ⟨a, b, e2, h⟩
theorem mt_append {r s : List (Option (α → Bool))} : ∀ {l : List α}, Mt (r ++ s) l ↔ ∃ a b, l = a ++ b ∧ Mt r a ∧ Mt s b := by
  induction r with
  | nil =>
    intro l
    constructor
    · intro h; exact ⟨[], l, rfl, .nil, h⟩
    · rintro ⟨a, b, rfl, h1, h2⟩
      rw [mt_nil] at h1; subst h1; exact h2
  | cons x r ih =>
    intro l
    cases x with
    | none =>
      rw [List.cons_append, mt_many]
      constructor
      · rintro ⟨a, b, rfl, h⟩
        obtain ⟨c, d, rfl, h1, h2⟩ := ih.1 h
        exact ⟨a ++ c, d, by rw [List.append_assoc], mt_many.2 ⟨a, c, rfl, h1⟩, h2⟩
      · rintro ⟨a, b, rfl, h1, h2⟩
        obtain ⟨c, d, rfl, h3⟩ := mt_many.1 h1
        exact ⟨c, d ++ b, by rw [List.append_assoc], ih.2 ⟨d, b, rfl, h3, h2⟩⟩
    | some f =>
      rw [List.cons_append, mt_one]
      constructor
      · rintro ⟨a, t, rfl, h1, h⟩
        obtain ⟨c, d, rfl, h2, h3⟩ := ih.1 h
        exact ⟨a :: c, d, rfl, .one h1 h2, h3⟩
      · rintro ⟨a, b, rfl, h1, h2⟩
        obtain ⟨c, t, rfl, h3, h4⟩ := mt_one.1 h1
        exact ⟨c, t ++ b, rfl, h3, ih.2 ⟨t, b, rfl, h4, h2⟩⟩
theorem mt_snoc_one {r : List (Option (α → Bool))} {f : α → Bool} {l : List α} {a : α} : Mt (r ++ [some f]) (l ++ [a]) ↔ Mt r l ∧ f a = true := by
  rw [mt_append]
  constructor
  · rintro ⟨c, d, e, h1, h2⟩
    obtain ⟨x, t, rfl, h3, h4⟩ := mt_one.1 h2
    rw [mt_nil] at h4; subst h4
    obtain ⟨e1, e2⟩ := List.append_inj' e rfl
    injection e2 with e2
    subst e1 e2
    exact ⟨h1, h3⟩
  · rintro ⟨h1, h2⟩
    exact ⟨l, [a], rfl, h1, .one h2 .nil⟩
theorem mt_snoc_one_nil {r : List (Option (α → Bool))} {f : α → Bool} : ¬ Mt (r ++ [some f]) [] := by
  rw [mt_append]
  rintro ⟨c, d, e, _, h2⟩
  obtain ⟨x, t, rfl, _⟩ := mt_one.1 h2
  simp at e
theorem mt_snoc_many {r : List (Option (α → Bool))} {l : List α} : Mt (r ++ [none]) l ↔ ∃ a b, l = a ++ b ∧ Mt r a := by
  rw [mt_append]
  constructor
  · rintro ⟨a, b, e, h1, _⟩; exact ⟨a, b, e, h1⟩
  · rintro ⟨a, b, e, h1⟩; exact ⟨a, b, e, h1, mt_many.2 ⟨b, [], by simp, .nil⟩⟩
theorem mt_snoc_many_nil {r : List (Option (α → Bool))} : Mt (r ++ [none]) ([] : List α) ↔ Mt r [] := by
  rw [mt_snoc_many]
  constructor
  · rintro ⟨a, b, e, h⟩
    have := List.append_eq_nil_iff.1 e.symm
    rw [this.1] at h; exact h
  · intro h; exact ⟨[], [], rfl, h⟩
theorem mt_snoc_many_snoc {r : List (Option (α → Bool))} {l : List α} {a : α} : Mt (r ++ [none]) (l ++ [a]) ↔ Mt r (l ++ [a]) ∨ Mt (r ++ [none]) l := by
  rw [mt_snoc_many, mt_snoc_many]
  constructor
  · rintro ⟨c, d, e, h⟩
    rcases List.eq_nil_or_concat d with rfl | ⟨d', x, rfl⟩
    · left; rw [e, List.append_nil]; exact h
    · right
      rw [List.concat_eq_append, ← List.append_assoc] at e
      obtain ⟨e1, _⟩ := List.append_inj' e rfl
      exact ⟨c, d', e1, h⟩
  · rintro (h | ⟨c, d, rfl, h⟩)
    · exact ⟨_, [], by simp, h⟩
    · exact ⟨c, d ++ [a], by simp, h⟩
theorem mt_empty_snoc {l : List α} {a : α} : ¬ Mt [] (l ++ [a]) := by rw [mt_nil]; simp
/-- At which items the next thing may stand: those ahead have had theirs; one that means any number may have begun. -/
def Stand (ps : List (Option (α → Bool))) (l : List α) (i : Nat) : Prop := (ps[i]? = some none ∧ Mt (ps.take i ++ [none]) l) ∨ (ps[i]? ≠ some none ∧ Mt (ps.take i) l)
theorem stand_else {ps : List (Option (α → Bool))} {l : List α} {i : Nat} (h : ps[i]? ≠ some none) : Stand ps l i ↔ Mt (ps.take i) l :=
  ⟨fun hh => hh.elim (fun x => absurd x.1 h) (fun x => x.2), fun hh => Or.inr ⟨h, hh⟩⟩
theorem stand_end {ps : List (Option (α → Bool))} {l : List α} : Stand ps l ps.length ↔ Mt ps l := by
  rw [stand_else (by simp), List.take_length]
theorem take_next {ps : List (Option (α → Bool))} {i : Nat} {x : Option (α → Bool)} (h : ps[i]? = some x) : ps.take (i + 1) = ps.take i ++ [x] := by
  rw [List.take_add_one, h]; rfl
/-- What stands behind an item that means any number. -/
theorem stand_many {ps : List (Option (α → Bool))} {l : List α} {i : Nat} (h : ps[i]? = some none) : Stand ps l i ↔ Mt (ps.take (i + 1)) l := by
  rw [take_next h]
  exact ⟨fun hh => hh.elim (fun x => x.2) (fun x => absurd h x.1), fun hh => Or.inl ⟨h, hh⟩⟩
/-- Ahead of all things. -/
theorem stand_start {ps : List (Option (α → Bool))} {i : Nat} (hi : i ≤ ps.length) : Stand ps [] i ↔ ∀ j, j < i → ps[j]? = some none := by
  have key : ∀ i, i ≤ ps.length → (Mt (ps.take i) [] ↔ ∀ j, j < i → ps[j]? = some none) := fun i => by
    induction i with
    | zero => intro _; simp [mt_nil]
    | succ i ih =>
      intro hi
      have hx : ps[i]? = some ps[i] := List.getElem?_eq_getElem (by omega)
      rw [take_next hx]
      cases hp : ps[i] with
      | none =>
        rw [hp] at hx
        rw [mt_snoc_many_nil, ih (by omega)]
        constructor
        · intro h j hj
          by_cases e : j = i
          · subst e; exact hx
          · exact h j (by omega)
        · intro h j hj; exact h j (by omega)
      | some f =>
        rw [hp] at hx
        constructor
        · intro h; exact absurd h mt_snoc_one_nil
        · intro h; have := h i (by omega); rw [hx] at this; cases this
  rcases Classical.em (ps[i]? = some none) with h | h
  · rw [stand_many h, take_next h, mt_snoc_many_nil]; exact key i hi
  · rw [stand_else h]; exact key i hi
/-- The next thing taken by an item that stands ready. -/
def Mid (ps : List (Option (α → Bool))) (at_ : Nat → Prop) (a : α) (i : Nat) : Prop := (ps[i]? = some none ∧ at_ i) ∨ ∃ j f, i = j + 1 ∧ ps[j]? = some (some f) ∧ at_ j ∧ f a = true
/-- An item that means any number lets the next one stand too. -/
inductive Fin (ps : List (Option (α → Bool))) (m : Nat → Prop) : Nat → Prop
  | here {i : Nat} : m i → Fin ps m i
  | past {i : Nat} : ps[i]? = some none → Fin ps m i → Fin ps m (i + 1)
theorem fin_zero {ps : List (Option (α → Bool))} {m : Nat → Prop} : Fin ps m 0 ↔ m 0 := ⟨fun h => by cases h with | here h => exact h, .here⟩
theorem fin_succ {ps : List (Option (α → Bool))} {m : Nat → Prop} {i : Nat} : Fin ps m (i + 1) ↔ m (i + 1) ∨ (ps[i]? = some none ∧ Fin ps m i) :=
  ⟨fun h => by cases h with
    | here h => exact Or.inl h
    | past h1 h2 => exact Or.inr ⟨h1, h2⟩, fun h => h.elim .here (fun ⟨h1, h2⟩ => .past h1 h2)⟩
theorem fin_start {ps : List (Option (α → Bool))} (i : Nat) (hi : i ≤ ps.length) : Fin ps (fun i => i = 0) i ↔ Stand ps [] i := by
  rw [stand_start hi]
  induction i with
  | zero => rw [fin_zero]; simp
  | succ i ih =>
    rw [fin_succ, ih (by omega)]
    constructor
    · rintro (h | ⟨h1, h2⟩)
      · omega
      · intro j hj
        by_cases e : j = i
        · subst e; exact h1
        · exact h2 j (by omega)
    · intro h; exact Or.inr ⟨h i (by omega), fun j hj => h j (by omega)⟩
/-- One more thing. -/
theorem fin_step {ps : List (Option (α → Bool))} {l : List α} {a : α} : ∀ i, i ≤ ps.length → (Fin ps (Mid ps (Stand ps l) a) i ↔ Stand ps (l ++ [a]) i) := fun i => by
  induction i with
  | zero =>
    intro _
    rw [fin_zero]
    unfold Mid
    constructor
    · rintro (⟨h1, h2⟩ | ⟨j, f, h, _⟩)
      · rw [stand_many h1] at h2 ⊢
        rw [take_next h1] at h2 ⊢
        rw [mt_snoc_many_snoc]; exact Or.inr h2
      · omega
    · intro h
      rcases Classical.em (ps[0]? = some none) with h1 | h1
      · refine Or.inl ⟨h1, ?_⟩
        rw [stand_many h1, take_next h1] at h ⊢
        rw [mt_snoc_many_snoc] at h
        rcases h with h | h
        · exact absurd h mt_empty_snoc
        · exact h
      · rw [stand_else h1] at h
        exact absurd h mt_empty_snoc
  | succ i ih =>
    intro hi
    have hx : ps[i]? = some ps[i] := List.getElem?_eq_getElem (by omega)
    have ihh := ih (by omega)
    -- what the items up to i mean with one more thing
    have base : Mt (ps.take (i + 1)) (l ++ [a]) ↔ (∃ f, ps[i]? = some (some f) ∧ Stand ps l i ∧ f a = true) ∨ (ps[i]? = some none ∧ Stand ps (l ++ [a]) i) := by
      cases hp : ps[i] with
      | none =>
        rw [hp] at hx
        constructor
        · intro h; exact Or.inr ⟨hx, (stand_many hx).2 h⟩
        · rintro (⟨f, h, _⟩ | ⟨_, h⟩)
          · rw [hx] at h; cases h
          · exact (stand_many hx).1 h
      | some f =>
        rw [hp] at hx
        rw [take_next hx, mt_snoc_one]
        have e : Stand ps l i ↔ Mt (ps.take i) l := stand_else (by rw [hx]; simp)
        rw [e]
        constructor
        · rintro ⟨h1, h2⟩; exact Or.inl ⟨f, hx, h1, h2⟩
        · rintro (⟨g, h, h1, h2⟩ | ⟨h, _⟩)
          · rw [hx] at h; injection h with h; injection h with h; subst h; exact ⟨h1, h2⟩
          · rw [hx] at h; cases h
    rw [fin_succ, ihh]
    rcases Classical.em (ps[i + 1]? = some none) with hm | hm
    · rw [stand_many hm, take_next hm, mt_snoc_many_snoc, base, ← take_next hm, ← stand_many hm]
      unfold Mid
      constructor
      · rintro ((⟨_, h⟩ | ⟨j, f, e, h1, h2, h3⟩) | h)
        · exact Or.inr h
        · obtain rfl : i = j := by omega
          exact Or.inl (Or.inl ⟨f, h1, h2, h3⟩)
        · exact Or.inl (Or.inr h)
      · rintro ((⟨f, h1, h2, h3⟩ | h) | h)
        · exact Or.inl (Or.inr ⟨i, f, rfl, h1, h2, h3⟩)
        · exact Or.inr h
        · exact Or.inl (Or.inl ⟨hm, h⟩)
    · have e : Stand ps (l ++ [a]) (i + 1) ↔ Mt (ps.take (i + 1)) (l ++ [a]) := stand_else hm
      rw [e, base]
      unfold Mid
      constructor
      · rintro ((⟨h, _⟩ | ⟨j, f, e, h1, h2, h3⟩) | h)
        · exact absurd h hm
        · obtain rfl : i = j := by omega
          exact Or.inl ⟨f, h1, h2, h3⟩
        · exact Or.inr h
      · rintro (⟨f, h1, h2, h3⟩ | h)
        · exact Or.inl (Or.inr ⟨i, f, rfl, h1, h2, h3⟩)
        · exact Or.inr h
/-- One way back: what stands behind the last item that means any number, with so many things behind it. -/
def Back (ps : List (Option (α → Bool))) (l : List α) (b u : Nat) : Prop := ∃ v, u ≤ v ∧ v ≤ l.length ∧ Mt (ps.drop b) (l.drop v)
theorem back_many {ps : List (Option (α → Bool))} {l : List α} {s i : Nat} (h : ps[s]? = some none) (hi : i ≤ l.length) : Mt (ps.drop s) (l.drop i) ↔ Back ps l (s + 1) i := by
  have hs : s < ps.length := (List.getElem?_eq_some_iff.1 h).1
  have hx : ps[s] = none := (List.getElem?_eq_some_iff.1 h).2
  rw [List.drop_eq_getElem_cons hs, hx, mt_many]
  unfold Back
  constructor
  · rintro ⟨a, b, e, h⟩
    have hl := congrArg List.length e
    rw [List.length_drop, List.length_append] at hl
    refine ⟨i + a.length, by omega, by omega, ?_⟩
    have e3 : l.drop (i + a.length) = b := by have := congrArg (List.drop a.length) e; simpa [List.drop_drop, Nat.add_comm] using this
    rw [e3]; exact h
  · rintro ⟨v, h1, h2, h3⟩
    refine ⟨(l.drop i).take (v - i), (l.drop i).drop (v - i), (List.take_append_drop _ _).symm, ?_⟩
    rw [List.drop_drop, show i + (v - i) = v by omega]; exact h3
theorem back_step {ps : List (Option (α → Bool))} {l : List α} {b u : Nat} (hu : u ≤ l.length) : Back ps l b u ↔ Mt (ps.drop b) (l.drop u) ∨ Back ps l b (u + 1) := by
  unfold Back
  constructor
  · rintro ⟨v, h1, h2, h3⟩
    by_cases e : v = u
    · subst e; exact Or.inl h3
    · exact Or.inr ⟨v, by omega, h2, h3⟩
  · rintro (h | ⟨v, h1, h2, h3⟩)
    · exact ⟨u, Nat.le_refl _, hu, h⟩
    · exact ⟨v, by omega, h2, h3⟩
/-- Items that each mean one thing take just as many. -/
theorem ones_past {ps : List (Option (α → Bool))} {l : List α} {b s : Nat} (hbs : b ≤ s) (hs : s ≤ ps.length) (h1 : ∀ j, b ≤ j → j < s → ∃ f, ps[j]? = some (some f)) : ∀ v, v ≤ l.length → Mt (ps.drop b) (l.drop v) → v + (s - b) ≤ l.length ∧ Mt (ps.drop s) (l.drop (v + (s - b))) := by
  obtain ⟨d, rfl⟩ : ∃ d, s = b + d := ⟨s - b, by omega⟩
  induction d with
  | zero => intro v hv h; rw [Nat.add_sub_cancel_left, Nat.add_zero]; exact ⟨hv, h⟩
  | succ d ih =>
    intro v hv h
    obtain ⟨h2, h3⟩ := ih (by omega) (by omega) (fun j hj hj2 => h1 j hj (by omega)) v hv h
    obtain ⟨f, hf⟩ := h1 (b + d) (by omega) (by omega)
    have hbl := (List.getElem?_eq_some_iff.1 hf).1
    have hbx := (List.getElem?_eq_some_iff.1 hf).2
    rw [List.drop_eq_getElem_cons hbl, hbx] at h3
    obtain ⟨x, t, e, _, h5⟩ := mt_one.1 h3
    have hl := congrArg List.length e
    rw [List.length_drop, List.length_cons] at hl
    have e2 : v + (b + (d + 1) - b) = v + (b + d - b) + 1 := by omega
    rw [e2]
    refine ⟨by omega, ?_⟩
    have e3 : l.drop (v + (b + d - b) + 1) = t := by have := congrArg (List.drop 1) e; simpa [List.drop_drop, Nat.add_comm] using this
    rw [e3]; exact h5
end
/-- Where the greedy way stands, and what it knows. -/
structure Way {α : Type} (ps : List (Option (α → Bool))) (l : List α) (s i : Nat) (b : Option Nat) (u : Nat) : Prop where
  hs : s ≤ ps.length
  hi : i ≤ l.length
  all : Mt ps l ↔ (Mt (ps.drop s) (l.drop i) ∨ ∃ k, b = some k ∧ Back ps l k (u + 1))
  back : ∀ k, b = some k → k ≤ s ∧ u + (s - k) = i ∧ (∀ j, k ≤ j → j < s → ∃ f, ps[j]? = some (some f))
section
variable {α : Type} {ps : List (Option (α → Bool))} {l : List α} {s i u : Nat} {b : Option Nat}
theorem Way.start : Way ps l 0 0 none 0 := ⟨Nat.zero_le _, Nat.zero_le _, ⟨fun h => Or.inl h, fun h => h.elim id (fun ⟨_, e, _⟩ => by cases e)⟩, fun _ e => by cases e⟩
theorem Way.star (h : Way ps l s i b u) (hp : ps[s]? = some none) : Way ps l (s + 1) i (some (s + 1)) i := by
  have hsl := (List.getElem?_eq_some_iff.1 hp).1
  refine ⟨hsl, h.hi, ?_, fun k e => ?_⟩
  · rw [h.all, back_many hp h.hi, back_step h.hi]
    constructor
    · rintro (h1 | ⟨k, hk, v, h1, h2, h3⟩)
      · rcases h1 with h1 | h1
        · exact Or.inl h1
        · exact Or.inr ⟨_, rfl, h1⟩
      · obtain ⟨k1, k2, k3⟩ := h.back k hk
        obtain ⟨h4, h5⟩ := ones_past k1 h.hs k3 v h2 h3
        have h6 := (back_many hp h4).1 h5
        obtain ⟨x, x1, x2, x3⟩ := h6
        exact Or.inr ⟨_, rfl, x, by omega, x2, x3⟩
    · rintro (h1 | ⟨k, hk, h1⟩)
      · exact Or.inl (Or.inl h1)
      · injection hk with hk; subst hk; exact Or.inl (Or.inr h1)
  · injection e with e; subst e
    exact ⟨Nat.le_refl _, by omega, fun j h1 h2 => by omega⟩
theorem Way.one {f : α → Bool} {a : α} (h : Way ps l s i b u) (hp : ps[s]? = some (some f)) (ha : l[i]? = some a) (hf : f a = true) : Way ps l (s + 1) (i + 1) b u := by
  have hsl := (List.getElem?_eq_some_iff.1 hp).1
  have hsx := (List.getElem?_eq_some_iff.1 hp).2
  have hil := (List.getElem?_eq_some_iff.1 ha).1
  have hix := (List.getElem?_eq_some_iff.1 ha).2
  refine ⟨hsl, hil, ?_, fun k e => ?_⟩
  · rw [h.all, List.drop_eq_getElem_cons hsl, hsx, List.drop_eq_getElem_cons hil, hix, mt_one_cons]
    simp only [hf, true_and]
  · obtain ⟨h1, h2, h3⟩ := h.back k e
    refine ⟨by omega, by omega, fun j h4 h5 => ?_⟩
    by_cases e : j = s
    · subst e; exact ⟨f, hp⟩
    · exact h3 j h4 (by omega)
/-- Where no way leads on, the last item that means any number takes one more. -/
theorem Way.again {k : Nat} (h : Way ps l s i (some k) u) (hil : i < l.length) (hno : ¬ Mt (ps.drop s) (l.drop i)) : Way ps l k (u + 1) (some k) (u + 1) := by
  obtain ⟨h1, h2, h3⟩ := h.back k rfl
  refine ⟨by have := h.hs; omega, by omega, ?_, fun k' e => ?_⟩
  · rw [h.all]
    constructor
    · rintro (h4 | ⟨k', e, h4⟩)
      · exact absurd h4 hno
      · injection e with e; subst e
        rcases (back_step (by omega)).1 h4 with h5 | h5
        · exact Or.inl h5
        · exact Or.inr ⟨_, rfl, h5⟩
    · rintro (h4 | ⟨k', e, h4⟩)
      · exact Or.inr ⟨_, rfl, (back_step (by omega)).2 (Or.inl h4)⟩
      · injection e with e; subst e
        exact Or.inr ⟨_, rfl, (back_step (by omega)).2 (Or.inr h4)⟩
  · injection e with e; subst e
    exact ⟨Nat.le_refl _, by omega, fun j h1 h2 => by omega⟩
theorem Way.stuck (h : Way ps l s i none u) (hno : ¬ Mt (ps.drop s) (l.drop i)) : ¬ Mt ps l := by
  rw [h.all]
  rintro (h1 | ⟨_, e, _⟩)
  · exact hno h1
  · cases e
/-- At a thing that the item doesn't mean there is no way on. -/
theorem no_way {a : α} (hp : ps[s]? = none ∨ ∃ f, ps[s]? = some (some f) ∧ f a = false) (ha : l[i]? = some a) : ¬ Mt (ps.drop s) (l.drop i) := by
  have hil := (List.getElem?_eq_some_iff.1 ha).1
  have hix := (List.getElem?_eq_some_iff.1 ha).2
  rw [List.drop_eq_getElem_cons hil, hix]
  rcases hp with h | ⟨f, h, hf⟩
  · rw [List.drop_eq_nil_of_le (List.getElem?_eq_none_iff.1 h), mt_nil]; simp
  · have hsl := (List.getElem?_eq_some_iff.1 h).1
    have hsx := (List.getElem?_eq_some_iff.1 h).2
    rw [List.drop_eq_getElem_cons hsl, hsx, mt_one_cons, hf]; simp
/-- At the end. -/
theorem Way.done (h : Way ps l s l.length b u) : Mt ps l ↔ Mt (ps.drop s) [] := by
  rw [h.all, List.drop_length]
  constructor
  · rintro (h1 | ⟨k, e, v, h1, h2, h3⟩)
    · exact h1
    · obtain ⟨k1, k2, k3⟩ := h.back k e
      obtain ⟨h4, h5⟩ := ones_past k1 h.hs k3 v h2 h3
      have : v + (s - k) = l.length := by omega
      rw [this, List.drop_length] at h5; exact h5
  · exact Or.inl
theorem stars_left {s : Nat} (hs : s ≤ ps.length) : Mt (ps.drop s) ([] : List α) ↔ ∀ j, s ≤ j → j < ps.length → ps[j]? = some none := by
  obtain ⟨d, hd⟩ : ∃ d, d = ps.length - s := ⟨_, rfl⟩
  induction d generalizing s with
  | zero =>
    rw [List.drop_eq_nil_of_le (by omega), mt_nil]
    exact ⟨fun _ j h1 h2 => by omega, fun _ => rfl⟩
  | succ d ih =>
    have hsl : s < ps.length := by omega
    rw [List.drop_eq_getElem_cons hsl]
    have hx : ps[s]? = some ps[s] := List.getElem?_eq_getElem hsl
    cases hp : ps[s] with
    | none =>
      rw [hp] at hx
      rw [mt_many_nil, ih (by omega) (by omega)]
      constructor
      · intro h j h1 h2
        by_cases e : j = s
        · subst e; exact hx
        · exact h j (by omega) h2
      · intro h j h1 h2; exact h j (by omega) h2
    | some f =>
      rw [hp] at hx
      constructor
      · intro h; exact absurd h mt_one_nil
      · intro h; have := h s (Nat.le_refl _) hsl; rw [hx] at this; cases this
end
end Go.Proofs.YthigepjddfdbmaaDoor
