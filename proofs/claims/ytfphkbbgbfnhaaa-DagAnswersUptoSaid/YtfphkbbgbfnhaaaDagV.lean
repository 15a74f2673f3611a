/- What comes from what, in words of one node: the mathematics of the laws. -/
import Derived.Test.YtfphkbbgbfnhaaaDagU
namespace Go.Proofs.Ytfphkbbgbfnhaaa

theorem beg_iff {g : Gr} {l : List Txt} {p : Nat} : begF g l p = true ↔ p < g.length ∧ nmOf g p ∈ l := by unfold begF; simp
theorem rch_lt {g : Gr} (hg : Good g) {i j : Nat} (h : Rch g i j) (hi : i < g.length) : j < g.length := Nat.lt_of_le_of_lt (h.le hg) hi
theorem from_one {g : Gr} (hg : Good g) {x : Txt} {i : Nat} : From g (begF g [x]) i ↔ idxN g x < g.length ∧ Rch g (idxN g x) i := by
  constructor
  · rintro ⟨s, h1, h2⟩
    obtain ⟨h3, h4⟩ := beg_iff.1 h1
    rw [List.mem_singleton] at h4
    have : idxN g x = s := by rw [← h4]; exact idx_nm hg h3
    rw [this]; exact ⟨h3, h2⟩
  · rintro ⟨h1, h2⟩
    exact ⟨idxN g x, beg_iff.2 ⟨h1, by rw [nm_idx h1]; simp⟩, h2⟩
open Classical in
theorem comes_iff {g : Gr} (hg : Good g) {x y : Txt} : comesB g x y = true ↔ idxN g x < g.length ∧ idxN g y < g.length ∧ Rch g (idxN g x) (idxN g y) := by
  unfold comesB reachB
  rw [Bool.and_eq_true, decide_eq_true_eq, decide_eq_true_eq, from_one hg]
  constructor
  · rintro ⟨⟨a, b⟩, c⟩; exact ⟨a, c, b⟩
  · rintro ⟨a, c, b⟩; exact ⟨⟨a, b⟩, c⟩
/-- From which of two both come. -/
def Comm (g : Gr) (x y : Txt) (i : Nat) : Prop := idxN g x < g.length ∧ idxN g y < g.length ∧ Rch g (idxN g x) i ∧ Rch g (idxN g y) i
open Classical in
theorem both_iff {g : Gr} (hg : Good g) {x y : Txt} {i : Nat} (hi : i < g.length) : begF g (bothN g x y) i = true ↔ Comm g x y i := by
  rw [beg_iff]
  unfold bothN
  rw [List.mem_map]
  constructor
  · rintro ⟨_, p, hp, he⟩
    obtain ⟨h1, h2⟩ := List.mem_filter.1 hp
    unfold visN at h1
    obtain ⟨j, h3, rfl⟩ := List.mem_map.1 h1
    obtain ⟨h4, h5⟩ := List.mem_filter.1 h3
    have h6 : j < g.length := by simpa using h4
    have h7 := nm_inj hg h6 hi he
    subst h7
    unfold reachB at h2
    obtain ⟨a1, a2⟩ := (from_one hg).1 (of_decide_eq_true h2)
    obtain ⟨b1, b2⟩ := (from_one hg).1 (of_decide_eq_true h5)
    exact ⟨a1, b1, a2, b2⟩
  · rintro ⟨a1, b1, a2, b2⟩
    refine ⟨hi, (i, !decide (Under g (begF g [y]) i)), List.mem_filter.2 ⟨?_, ?_⟩, rfl⟩
    · unfold visN
      refine List.mem_map.2 ⟨i, List.mem_filter.2 ⟨by simpa using hi, ?_⟩, rfl⟩
      exact decide_eq_true ((from_one hg).2 ⟨b1, b2⟩)
    · unfold reachB
      exact decide_eq_true ((from_one hg).2 ⟨a1, a2⟩)
theorem comm_lt {g : Gr} (hg : Good g) {x y : Txt} {i : Nat} (h : Comm g x y i) : i < g.length := rch_lt hg h.2.2.1 h.1
theorem comm_down {g : Gr} {x y : Txt} {i j : Nat} (h : Comm g x y i) (hr : Rch g i j) : Comm g x y j := ⟨h.1, h.2.1, h.2.2.1.trans hr, h.2.2.2.trans hr⟩
theorem from_both {g : Gr} (hg : Good g) {x y : Txt} {i : Nat} (hi : i < g.length) : From g (begF g (bothN g x y)) i ↔ Comm g x y i := by
  constructor
  · rintro ⟨s, h1, h2⟩
    have hs := (beg_iff.1 h1).1
    exact comm_down ((both_iff hg hs).1 h1) h2
  · intro h
    exact ⟨i, (both_iff hg hi).2 h, .refl _⟩
/-- A step at least, from one of some. -/
theorem under_iff {g : Gr} (hg : Good g) {b : Nat → Bool} {i : Nat} : Under g b i ↔ ∃ j, From g b j ∧ j ≠ i ∧ Rch g j i := by
  constructor
  · rintro ⟨j, h1, h2⟩
    exact ⟨j, h1, by have := (down_lt hg h2).1; omega, .step h2 (.refl _)⟩
  · rintro ⟨j, ⟨s, h1, h2⟩, h3, h4⟩
    rcases h4.last with e | ⟨k, h5, h6⟩
    · exact absurd e h3
    · exact ⟨k, ⟨s, h1, h2.trans h5⟩, h6⟩
/-- The bases of two nodes. -/
theorem bases_mem {g : Gr} (hg : Good g) {x y z : Txt} {R : List Txt} (h : IsTips g (begF g (bothN g x y)) R) : z ∈ R ↔ ∃ i, i < g.length ∧ nmOf g i = z ∧ Comm g x y i ∧ ∀ j, Comm g x y j → Rch g j i → j = i := by
  rw [h.2 z]
  constructor
  · rintro ⟨i, h1, h2, h3, h4⟩
    refine ⟨i, h1, h2, (from_both hg h1).1 h3, fun j h5 h6 => ?_⟩
    rcases Classical.em (j = i) with e | e
    · exact e
    · exact absurd ((under_iff hg).2 ⟨j, (from_both hg (comm_lt hg h5)).2 h5, e, h6⟩) h4
  · rintro ⟨i, h1, h2, h3, h4⟩
    refine ⟨i, h1, h2, (from_both hg h1).2 h3, fun h5 => ?_⟩
    obtain ⟨j, h6, h7, h8⟩ := (under_iff hg).1 h5
    obtain ⟨s, h9, h10⟩ := h6
    have hs := (beg_iff.1 h9).1
    exact h7 (h4 j (comm_down ((both_iff hg hs).1 h9) h10) h8)
/-- The tips of some nodes. -/
theorem tips_mem {g : Gr} (hg : Good g) {l : List Txt} {z : Txt} {R : List Txt} (h : IsTips g (begF g l) R) : z ∈ R ↔ ∃ i, i < g.length ∧ nmOf g i = z ∧ z ∈ l ∧ ∀ s, s < g.length → nmOf g s ∈ l → Rch g s i → s = i := by
  rw [h.2 z]
  constructor
  · rintro ⟨i, h1, h2, ⟨s, h3, h4⟩, h5⟩
    have hs := beg_iff.1 h3
    have e : s = i := by
      rcases Classical.em (s = i) with e | e
      · exact e
      · exact absurd ((under_iff hg).2 ⟨s, ⟨s, h3, .refl _⟩, e, h4⟩) h5
    subst e
    refine ⟨s, h1, h2, h2 ▸ hs.2, fun t ht1 ht2 ht3 => ?_⟩
    rcases Classical.em (t = s) with e | e
    · exact e
    · exact absurd ((under_iff hg).2 ⟨t, ⟨t, beg_iff.2 ⟨ht1, ht2⟩, .refl _⟩, e, ht3⟩) h5
  · rintro ⟨i, h1, h2, h3, h4⟩
    refine ⟨i, h1, h2, ⟨i, beg_iff.2 ⟨h1, by rw [h2]; exact h3⟩, .refl _⟩, fun h5 => ?_⟩
    obtain ⟨j, ⟨s, h6, h7⟩, h8⟩ := h5
    obtain ⟨h9, h10⟩ := beg_iff.1 h6
    have e := h4 s h9 h10 (h7.snoc h8)
    subst e
    have h11 := h7.le hg
    have h12 := (down_lt hg h8).1
    omega
end Go.Proofs.Ytfphkbbgbfnhaaa
