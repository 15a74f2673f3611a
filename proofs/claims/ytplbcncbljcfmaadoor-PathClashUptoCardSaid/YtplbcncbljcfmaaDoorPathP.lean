/- Paths in order: clashes, folders in common. -/
import Derived.Test.YtplbcncbljcfmaaDoorPathB
namespace Go.Proofs.YtplbcncbljcfmaaDoor

abbrev Txt := List UInt8
/-- The order as a test: not behind. -/
def leP (a b : Txt) : Bool := !decide (cmpP b a < 0)
theorem leP_iff (a b : Txt) : leP a b = true ↔ cmpP a b ≤ 0 := by
  unfold leP
  have h := cmpP_neg b a
  simp only [Bool.not_eq_true', decide_eq_false_iff_not]
  omega
def sortP (l : List Txt) : List Txt := l.mergeSort leP
theorem sortP_perm (l : List Txt) : (sortP l).Perm l := List.mergeSort_perm l leP
theorem leP_trans (a b c : Txt) (h1 : leP a b = true) (h2 : leP b c = true) : leP a c = true := by
  rw [leP_iff] at h1 h2 ⊢; exact cmpP_trans a b c h1 h2
theorem leP_total (a b : Txt) : (leP a b || leP b a) = true := by
  rw [Bool.or_eq_true, leP_iff, leP_iff]
  have := cmpP_neg a b
  omega
theorem sortP_sorted (l : List Txt) : (sortP l).Pairwise fun a b => cmpP a b ≤ 0 := by
  have h := List.pairwise_mergeSort (le := leP) leP_trans leP_total l
  exact h.imp fun {a b} h => (leP_iff a b).1 h
theorem sorted_unique {l r : List Txt} (hp : l.Perm r) (hl : l.Pairwise fun a b => cmpP a b ≤ 0) (hr : r.Pairwise fun a b => cmpP a b ≤ 0) : l = r := by
  refine List.Perm.eq_of_pairwise (le := fun a b => cmpP a b ≤ 0) (fun a b _ _ h1 h2 => ?_) hl hr hp
  have := cmpP_neg a b
  exact (cmpP_zero a b).1 (by omega)
/-- The one is the other, or lies within it. -/
def relB (p q : Txt) : Bool := p == q || underB p q
theorem relB_self (p : Txt) : relB p p = true := by unfold relB; simp
theorem relB_cmp {p q : Txt} (h : relB p q = true) : 0 ≤ cmpP p q := by
  unfold relB at h
  rcases Bool.or_eq_true_iff.1 h with h | h
  · have : p = q := by simpa using h
    rw [(cmpP_zero p q).2 this]; omega
  · rw [under_one h]; omega
/-- What stands between a path and what lies in it lies in it too. -/
theorem relB_between {x y z : Txt} (h1 : cmpP x y ≤ 0) (h2 : cmpP y z ≤ 0) (h : relB z x = true) : relB y x = true := by
  by_cases e : y = x
  · rw [e]; exact relB_self x
  · have hlt : cmpP x y < 0 := by
      have : cmpP x y ≠ 0 := fun k => e ((cmpP_zero x y).1 k).symm
      omega
    unfold relB at h ⊢
    rcases Bool.or_eq_true_iff.1 h with h | h
    · have hz : z = x := by simpa using h
      subst hz
      have := cmpP_neg y z
      omega
    · by_cases hu : underB y x = true
      · rw [hu, Bool.or_true]
      · have hw := under_wedge h (by simpa using hu) hlt
        have := cmpP_neg y z
        omega
/-- No two side by side clash. -/
def apart : List Txt → Bool
  | x :: y :: r => !relB y x && apart (y :: r)
  | _ => true
theorem apart_pairs {l : List Txt} (hs : l.Pairwise fun a b => cmpP a b ≤ 0) (h : apart l = true) : l.Pairwise fun a b => relB a b = false ∧ relB b a = false := by
  induction l with
  | nil => exact List.Pairwise.nil
  | cons x r ih =>
    cases r with
    | nil => simp
    | cons y r =>
      rw [apart, Bool.and_eq_true] at h
      obtain ⟨h1, h2⟩ := h
      have h1 : relB y x = false := by simpa using h1
      rw [List.pairwise_cons] at hs
      refine List.pairwise_cons.2 ⟨fun z hz => ?_, ih hs.2 h2⟩
      have hxz := hs.1 z hz
      have hxy := hs.1 y List.mem_cons_self
      have hb : relB z x = false := by
        cases e : relB z x
        · rfl
        · have hyz : cmpP y z ≤ 0 := by
            rcases List.mem_cons.1 hz with rfl | hz
            · rw [cmpP_self]; omega
            · exact (List.pairwise_cons.1 hs.2).1 z hz
          rw [relB_between hxy hyz e] at h1
          exact absurd h1 (by decide)
      refine ⟨?_, hb⟩
      cases e : relB x z
      · rfl
      · have h0 := relB_cmp e
        have hc : cmpP x z = 0 := by omega
        rw [(cmpP_zero x z).1 hc, relB_self] at hb
        exact absurd hb (by decide)
theorem apart_getD : ∀ {l : List Txt}, (∀ j, 0 < j → j < l.length → relB (l.getD j []) (l.getD (j - 1) []) = false) → apart l = true := by
  intro l
  induction l with
  | nil => intro _; rfl
  | cons x r ih =>
    intro h
    cases r with
    | nil => rfl
    | cons y r =>
      rw [apart, Bool.and_eq_true]
      refine ⟨by have := h 1 (by omega) (by simp); simpa using this, ih fun j h0 hj => ?_⟩
      have := h (j + 1) (by omega) (by simp at hj ⊢; omega)
      obtain ⟨k, rfl⟩ : ∃ k, j = k + 1 := ⟨j - 1, by omega⟩
      simpa using this
/-- The first clash of what stands in order. -/
def ClashOf (s : List Txt) (a b : Txt) : Prop :=
  (∃ i, 0 < i ∧ i < s.length ∧ relB (s.getD i []) (s.getD (i - 1) []) = true ∧ (∀ j, 0 < j → j < i → relB (s.getD j []) (s.getD (j - 1) []) = false) ∧ a = s.getD i [] ∧ b = s.getD (i - 1) []) ∨
    ((∀ j, 0 < j → j < s.length → relB (s.getD j []) (s.getD (j - 1) []) = false) ∧ a = [] ∧ b = [])
theorem ClashOf.unique {s : List Txt} {a b c d : Txt} (h : ClashOf s a b) (k : ClashOf s c d) : a = c ∧ b = d := by
  rcases h with ⟨i, h0, hi, hr, hn, rfl, rfl⟩ | ⟨hn, rfl, rfl⟩
  · rcases k with ⟨j, k0, kj, kr, kn, rfl, rfl⟩ | ⟨kn, rfl, rfl⟩
    · have : i = j := by
        rcases Nat.lt_trichotomy i j with h | h | h
        · rw [kn i h0 h] at hr; exact absurd hr (by decide)
        · exact h
        · rw [hn j k0 h] at kr; exact absurd kr (by decide)
      subst this; exact ⟨rfl, rfl⟩
    · rw [kn i h0 hi] at hr; exact absurd hr (by decide)
  · rcases k with ⟨j, k0, kj, kr, kn, rfl, rfl⟩ | ⟨kn, rfl, rfl⟩
    · rw [hn j k0 kj] at kr; exact absurd kr (by decide)
    · exact ⟨rfl, rfl⟩
/-- Is there a clash in one of the first i rows, or in row i ahead of k? -/
def anyRow (l : List Txt) (i k : Nat) : Bool := (List.range k).any fun j => decide (i ≠ j) && relB (l.getD i []) (l.getD j [])
def anyAll (l : List Txt) (i : Nat) : Bool := (List.range i).any fun j => anyRow l j l.length
theorem anyRow_succ (l : List Txt) (i k : Nat) : anyRow l i (k + 1) = (anyRow l i k || (decide (i ≠ k) && relB (l.getD i []) (l.getD k []))) := by
  unfold anyRow; rw [List.range_succ, List.any_append]; simp
theorem anyAll_succ (l : List Txt) (i : Nat) : anyAll l (i + 1) = (anyAll l i || anyRow l i l.length) := by
  unfold anyAll; rw [List.range_succ, List.any_append]; simp
theorem getD_at {l : List Txt} {j : Nat} (h : j < l.length) : l.getD j [] = l[j] := by simp [List.getD, List.getElem?_eq_getElem h]
theorem anyAll_iff (l : List Txt) : anyAll l l.length = false ↔ l.Pairwise fun a b => relB a b = false ∧ relB b a = false := by
  rw [List.pairwise_iff_getElem]
  constructor
  · intro h i j hi hj hij
    have hall : ∀ a b, a < l.length → b < l.length → a ≠ b → relB (l.getD a []) (l.getD b []) = false := fun a b ha hb hab => by
      have h1 : anyRow l a l.length = false := by
        unfold anyAll at h
        rw [List.any_eq_false] at h
        simpa using h a (List.mem_range.2 ha)
      unfold anyRow at h1
      rw [List.any_eq_false] at h1
      have := h1 b (List.mem_range.2 hb)
      simpa [hab] using this
    have h1 := hall i j hi hj (by omega)
    have h2 := hall j i hj hi (by omega)
    rw [getD_at hi, getD_at hj] at h1 h2
    exact ⟨h1, h2⟩
  · intro h
    unfold anyAll
    rw [List.any_eq_false]
    intro a ha
    rw [List.mem_range] at ha
    rw [Bool.not_eq_true]
    unfold anyRow
    rw [List.any_eq_false]
    intro b hb
    rw [List.mem_range] at hb
    by_cases e : a = b
    · simp [e]
    · rw [Bool.not_eq_true, Bool.and_eq_false_iff]
      right
      rw [getD_at ha, getD_at hb]
      rcases Nat.lt_or_gt_of_ne e with hlt | hlt
      · exact (h a b ha hb hlt).1
      · exact (h b a hb ha hlt).2
/-- A clash is told just where there is one. -/
theorem clash_any {l : List Txt} {a b : Txt} (hne : ∀ x ∈ l, x ≠ []) (h : ClashOf (sortP l) a b) : anyAll l l.length = decide (a ≠ []) ∧ (a ≠ [] → a ≠ b → underB a b = true) := by
  have hperm := sortP_perm l
  have hsym : ∀ {x y : Txt}, (relB x y = false ∧ relB y x = false) → (relB y x = false ∧ relB x y = false) := fun h => ⟨h.2, h.1⟩
  have hpw := hperm.pairwise_iff (R := fun a b => relB a b = false ∧ relB b a = false) hsym
  rcases h with ⟨i, h0, hi, hr, hn, rfl, rfl⟩ | ⟨hn, rfl, rfl⟩
  · have hne2 : (sortP l).getD i [] ≠ [] := by
      rw [getD_at hi]; exact hne _ (hperm.mem_iff.1 (List.getElem_mem hi))
    refine ⟨?_, fun _ hab => ?_⟩
    · rw [decide_eq_true hne2]
      cases e : anyAll l l.length
      · have hp := hpw.2 ((anyAll_iff l).1 e)
        rw [List.pairwise_iff_getElem] at hp
        have := (hp (i - 1) i (by omega) hi (by omega)).2
        rw [getD_at hi, getD_at (show i - 1 < _ by omega), this] at hr
        exact absurd hr (by decide)
      · rfl
    · unfold relB at hr
      rcases Bool.or_eq_true_iff.1 hr with hr | hr
      · exact absurd (by simpa using hr) hab
      · exact hr
  · refine ⟨?_, fun h => absurd rfl h⟩
    have hp := apart_pairs (sortP_sorted l) (apart_getD hn)
    rw [(anyAll_iff l).2 (hpw.1 hp)]
    rfl
end Go.Proofs.YtplbcncbljcfmaaDoor
