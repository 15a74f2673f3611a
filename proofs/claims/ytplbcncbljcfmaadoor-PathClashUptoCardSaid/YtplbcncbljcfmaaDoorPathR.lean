/- Put in order one by one; the reference's clash; a folder's paths side by side. -/
import Derived.Test.YtplbcncbljcfmaaDoorPathQ
namespace Go.Proofs.YtplbcncbljcfmaaDoor

/-- x put in at place k. -/
def insAt (o : List Txt) (x : Txt) (k : Nat) : List Txt := o.take k ++ x :: o.drop k
theorem insAt_perm (o : List Txt) (x : Txt) (k : Nat) : (insAt o x k).Perm (o ++ [x]) := by
  unfold insAt
  refine List.perm_middle.trans ?_
  rw [List.take_append_drop]
  exact (List.perm_append_singleton x o).symm
theorem insAt_sorted {o : List Txt} {x : Txt} {k : Nat} (ho : o.Pairwise fun a b => cmpP a b ≤ 0) (h1 : ∀ j, k ≤ j → j < o.length → cmpP x (o.getD j []) < 0) (h2 : k = 0 ∨ 0 ≤ cmpP x (o.getD (k - 1) [])) (hk : k ≤ o.length) : (insAt o x k).Pairwise fun a b => cmpP a b ≤ 0 := by
  unfold insAt
  have hto : (o.take k ++ o.drop k).Pairwise fun a b => cmpP a b ≤ 0 := by rw [List.take_append_drop]; exact ho
  rw [List.pairwise_append] at hto ⊢
  obtain ⟨ht, hd, hx⟩ := hto
  have hdr : ∀ b ∈ o.drop k, cmpP x b < 0 := fun b hb => by
    obtain ⟨i, hi, rfl⟩ := List.mem_iff_getElem.1 hb
    rw [List.length_drop] at hi
    rw [List.getElem_drop]
    have := h1 (k + i) (by omega) (by omega)
    rwa [getD_at (by omega)] at this
  have htk : ∀ a ∈ o.take k, cmpP a x ≤ 0 := fun a ha => by
    obtain ⟨i, hi, rfl⟩ := List.mem_iff_getElem.1 ha
    rw [List.length_take] at hi
    rw [List.getElem_take]
    rcases h2 with h2 | h2
    · omega
    · rw [getD_at (by omega)] at h2
      have hneg := cmpP_neg x o[k - 1]
      by_cases e : i = k - 1
      · subst e; omega
      · have := List.pairwise_iff_getElem.1 ho i (k - 1) (by omega) (by omega) (by omega)
        exact cmpP_trans _ _ _ this (by omega)
  refine ⟨ht, List.pairwise_cons.2 ⟨fun b hb => by have := hdr b hb; omega, hd⟩, fun a ha b hb => ?_⟩
  rcases List.mem_cons.1 hb with rfl | hb
  · exact htk a ha
  · exact hx a ha b hb
/-- No two of the first i clash. -/
def noneBelow (s : List Txt) (i : Nat) : Prop := ∀ j, j < i → ∀ k, k < j → relB (s.getD j []) (s.getD k []) = false
theorem noneBelow_step {s : List Txt} {i : Nat} (h : noneBelow s i) (hr : ∀ k, k < i → relB (s.getD i []) (s.getD k []) = false) : noneBelow s (i + 1) := fun j hj k hk => by
  by_cases e : j = i
  · subst e; exact hr k hk
  · exact h j (by omega) k hk
theorem sorted_at {s : List Txt} (hs : s.Pairwise fun a b => cmpP a b ≤ 0) {j k : Nat} (h : j ≤ k) (hk : k < s.length) : cmpP (s.getD j []) (s.getD k []) ≤ 0 := by
  rw [getD_at hk, getD_at (show j < s.length by omega)]
  by_cases e : j = k
  · subst e; rw [cmpP_self]; omega
  · exact List.pairwise_iff_getElem.1 hs j k (by omega) hk (by omega)
theorem clash_found {s : List Txt} (hs : s.Pairwise fun a b => cmpP a b ≤ 0) {i k : Nat} (hi : i < s.length) (hk : k < i) (hn : noneBelow s i) (hr : relB (s.getD i []) (s.getD k []) = true) : ClashOf s (s.getD i []) (s.getD k []) := by
  have hki : k = i - 1 := by
    by_cases e : k = i - 1
    · exact e
    · exfalso
      have h1 := sorted_at hs (show k ≤ i - 1 by omega) (by omega)
      have h2 := sorted_at hs (show i - 1 ≤ i by omega) hi
      have := relB_between h1 h2 hr
      rw [hn (i - 1) (by omega) k (by omega)] at this
      exact absurd this (by decide)
  subst hki
  exact Or.inl ⟨i, by omega, hi, hr, fun j h0 hj => hn j hj (j - 1) (by omega), rfl, rfl⟩
theorem clash_none {s : List Txt} (hn : noneBelow s s.length) : ClashOf s [] [] := Or.inr ⟨fun j h0 hj => hn j hj (j - 1) (by omega), rfl, rfl⟩
/-- What is held of a folder's paths in order, as far as place i: 0: none yet, 1: the last one lies in it, 2: all are behind. -/
def sideBy (s : List Txt) (f : Txt) (i : Nat) (st : Int) : Prop :=
  st = 0 ∨ (st = 1 ∧ 0 < i ∧ underB (s.getD (i - 1) []) f = true) ∨ (st = 2 ∧ ∃ j, j < i ∧ underB (s.getD j []) f = false ∧ cmpP f (s.getD j []) < 0)
theorem under_neg {p f : Txt} (h : underB p f = true) : cmpP f p < 0 := by
  have h1 := under_one h
  have h2 := cmpP_neg f p
  omega
theorem side_in {s : List Txt} (hs : s.Pairwise fun a b => cmpP a b ≤ 0) {f : Txt} {i : Nat} {st : Int} (hi : i < s.length) (h : sideBy s f i st) (hu : underB (s.getD i []) f = true) : st = 0 ∨ st = 1 := by
  rcases h with h | ⟨h, _⟩ | ⟨_, j, hj, h1, h2⟩
  · exact Or.inl h
  · exact Or.inr h
  · exfalso
    have h3 := under_wedge hu h1 h2
    have h4 := sorted_at hs (show j ≤ i by omega) hi
    have := cmpP_neg (s.getD i []) (s.getD j [])
    omega
theorem side_on_in {s : List Txt} {f : Txt} {i : Nat} (hu : underB (s.getD i []) f = true) : sideBy s f (i + 1) 1 := Or.inr (Or.inl ⟨rfl, by omega, hu⟩)
theorem side_one {s : List Txt} (hs : s.Pairwise fun a b => cmpP a b ≤ 0) {f : Txt} {i : Nat} (hi : i < s.length) (h : sideBy s f i 1) (hu : underB (s.getD i []) f = false) : sideBy s f (i + 1) 2 := by
  rcases h with h | ⟨_, h0, h1⟩ | ⟨h, _⟩
  · exact absurd h (by decide)
  · have h2 := under_neg h1
    have h3 := sorted_at hs (show i - 1 ≤ i by omega) hi
    have h4 := cmpP_trans f _ _ (by omega) h3
    have h5 : cmpP f (s.getD i []) ≠ 0 := fun e => by
      rw [← (cmpP_zero _ _).1 e] at h3
      have := cmpP_neg f (s.getD (i - 1) [])
      omega
    exact Or.inr (Or.inr ⟨rfl, i, by omega, hu, by omega⟩)
  · exact absurd h (by decide)
theorem side_two {s : List Txt} {f : Txt} {i : Nat} (h : sideBy s f i 2) : sideBy s f (i + 1) 2 := by
  rcases h with h | ⟨h, _⟩ | ⟨_, j, hj, h1⟩
  · exact absurd h (by decide)
  · exact absurd h (by decide)
  · exact Or.inr (Or.inr ⟨rfl, j, by omega, h1⟩)
theorem side_past {s : List Txt} {f : Txt} {i : Nat} (hu : underB (s.getD i []) f = false) (hc : cmpP f (s.getD i []) < 0) : sideBy s f (i + 1) 2 := Or.inr (Or.inr ⟨rfl, i, by omega, hu, hc⟩)
end Go.Proofs.YtplbcncbljcfmaaDoor
