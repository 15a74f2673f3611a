/- A node more: the mathematics of the law DagGrows. -/
import Derived.Test.YtfphkbbgbfnhaaaDagZ
namespace Go.Proofs.Ytfphkbbgbfnhaaa
open Go.RowKit Go.Shelf Go.Maps Go.Lib Go.Sort

section
variable {g : Gr} {x : Txt} {r : List Nat}
theorem out_idx (h : x ∉ names g) : ¬ idxN g x < g.length := fun h2 => h (in_names.2 h2)
theorem ext_rch (hg : Good g) (_hx : x ∉ names g) (_hr : ∀ i ∈ r, i < g.length) {i j : Nat} (hi : i < g.length) : Rch (g ++ [⟨x, r⟩]) i j ↔ Rch g i j := by
  constructor
  · intro h
    induction h with
    | refl i => exact .refl _
    | step hp _ ih =>
      rw [ps_push, if_neg (by omega)] at hp
      have := (down_lt hg hp).1
      exact .step hp (ih (by omega))
  · intro h
    induction h with
    | refl i => exact .refl _
    | step hp _ ih =>
      have := (down_lt hg hp).1
      exact .step (by rw [ps_push, if_neg (by omega)]; exact hp) (ih (by omega))
theorem ext_in (hx : x ∉ names g) {y : Txt} (hy : y ≠ x) : idxN (g ++ [(⟨x, r⟩ : Nd)]) y < (g ++ [(⟨x, r⟩ : Nd)]).length ↔ idxN g y < g.length := by
  rw [(idx_push r (out_idx hx) y).1]
  exact ⟨fun h => h.resolve_right hy, Or.inl⟩
theorem ext_idx (hx : x ∉ names g) {y : Txt} (hy : idxN g y < g.length) : idxN (g ++ [(⟨x, r⟩ : Nd)]) y = idxN g y := (idx_push r (out_idx hx) y).2.1 hy
theorem ext_nm {i : Nat} (hi : i < g.length) : nmOf (g ++ [⟨x, r⟩]) i = nmOf g i := by rw [nm_push, if_neg (by omega)]
theorem ext_good (hg : Good g) (hx : x ∉ names g) (hr : ∀ i ∈ r, i < g.length) : Good (g ++ [(⟨x, r⟩ : Nd)]) := good_push hg (out_idx hx) hr
theorem ext_comes (hg : Good g) (hx : x ∉ names g) (hr : ∀ i ∈ r, i < g.length) {y z : Txt} (hy : y ≠ x) (hz : z ≠ x) : comesB (g ++ [⟨x, r⟩]) y z = comesB g y z := by
  rw [Bool.eq_iff_iff, comes_iff (ext_good hg hx hr), comes_iff hg, ext_in hx hy, ext_in hx hz]
  constructor
  · rintro ⟨h1, h2, h3⟩
    rw [ext_idx hx h1, ext_idx hx h2, ext_rch hg hx hr h1] at h3
    exact ⟨h1, h2, h3⟩
  · rintro ⟨h1, h2, h3⟩
    refine ⟨h1, h2, ?_⟩
    rw [ext_idx hx h1, ext_idx hx h2, ext_rch hg hx hr h1]
    exact h3
theorem ext_comm (hg : Good g) (hx : x ∉ names g) (hr : ∀ i ∈ r, i < g.length) {y z : Txt} (hy : y ≠ x) (hz : z ≠ x) {i : Nat} : Comm (g ++ [⟨x, r⟩]) y z i ↔ Comm g y z i := by
  unfold Comm
  rw [ext_in hx hy, ext_in hx hz]
  constructor
  · rintro ⟨h1, h2, h3, h4⟩
    rw [ext_idx hx h1, ext_rch hg hx hr h1] at h3
    rw [ext_idx hx h2, ext_rch hg hx hr h2] at h4
    exact ⟨h1, h2, h3, h4⟩
  · rintro ⟨h1, h2, h3, h4⟩
    refine ⟨h1, h2, ?_, ?_⟩
    · rw [ext_idx hx h1, ext_rch hg hx hr h1]; exact h3
    · rw [ext_idx hx h2, ext_rch hg hx hr h2]; exact h4
theorem ext_bases (hg : Good g) (hx : x ∉ names g) (hr : ∀ i ∈ r, i < g.length) {y z : Txt} (hy : y ≠ x) (hz : z ≠ x) {R R' : List Txt} (h : IsTips g (begF g (bothN g y z)) R) (h' : IsTips (g ++ [⟨x, r⟩]) (begF (g ++ [⟨x, r⟩]) (bothN (g ++ [⟨x, r⟩]) y z)) R') : R' = R := by
  refine asc_eq h'.1 h.1 (fun u => ?_)
  rw [bases_mem (ext_good hg hx hr) h', bases_mem hg h]
  constructor
  · rintro ⟨i, h1, h2, h3, h4⟩
    have h5 := (ext_comm hg hx hr hy hz).1 h3
    have h6 := comm_lt hg h5
    rw [ext_nm h6] at h2
    exact ⟨i, h6, h2, h5, fun j hj hrc => h4 j ((ext_comm hg hx hr hy hz).2 hj) ((ext_rch hg hx hr (comm_lt hg hj)).2 hrc)⟩
  · rintro ⟨i, h1, h2, h3, h4⟩
    refine ⟨i, by simp; omega, by rw [ext_nm h1]; exact h2, (ext_comm hg hx hr hy hz).2 h3, fun j hj hrc => ?_⟩
    have h5 := (ext_comm hg hx hr hy hz).1 hj
    exact h4 j h5 ((ext_rch hg hx hr (comm_lt hg h5)).1 hrc)
theorem ext_top (_hg : Good g) (_hx : x ∉ names g) (_hr : ∀ i ∈ r, i < g.length) {l : List Txt} (hl : x ∉ l) {s : Nat} (hs : s < (g ++ [(⟨x, r⟩ : Nd)]).length) (hsl : nmOf (g ++ [⟨x, r⟩]) s ∈ l) : s < g.length ∧ nmOf g s ∈ l := by
  rcases Nat.lt_or_ge s g.length with h | h
  · rw [ext_nm h] at hsl; exact ⟨h, hsl⟩
  · have : s = g.length := by simp at hs; omega
    rw [nm_push, if_pos this] at hsl
    exact absurd hsl hl
theorem ext_tips (hg : Good g) (hx : x ∉ names g) (hr : ∀ i ∈ r, i < g.length) {l : List Txt} (hl : x ∉ l) {R R' : List Txt} (h : IsTips g (begF g l) R) (h' : IsTips (g ++ [⟨x, r⟩]) (begF (g ++ [⟨x, r⟩]) l) R') : R' = R := by
  refine asc_eq h'.1 h.1 (fun u => ?_)
  rw [tips_mem (ext_good hg hx hr) h', tips_mem hg h]
  constructor
  · rintro ⟨i, h1, rfl, h3, h4⟩
    obtain ⟨k1, k2⟩ := ext_top hg hx hr hl h1 h3
    refine ⟨i, k1, (ext_nm k1).symm, h3, fun s hs hsl hrc => h4 s (by simp; omega) (by rw [ext_nm hs]; exact hsl) ((ext_rch hg hx hr hs).2 hrc)⟩
  · rintro ⟨i, h1, rfl, h3, h4⟩
    refine ⟨i, by simp; omega, ext_nm h1, h3, fun s hs hsl hrc => ?_⟩
    obtain ⟨k1, k2⟩ := ext_top hg hx hr hl hs hsl
    exact h4 s k1 k2 ((ext_rch hg hx hr k1).1 hrc)
theorem ext_from (hg : Good g) (hx : x ∉ names g) (hr : ∀ i ∈ r, i < g.length) {l : List Txt} (hl : x ∉ l) {i : Nat} : From (g ++ [⟨x, r⟩]) (begF (g ++ [⟨x, r⟩]) l) i ↔ From g (begF g l) i := by
  constructor
  · rintro ⟨s, h1, h2⟩
    obtain ⟨h3, h4⟩ := beg_iff.1 h1
    obtain ⟨k1, k2⟩ := ext_top hg hx hr hl h3 h4
    exact ⟨s, beg_iff.2 ⟨k1, k2⟩, (ext_rch hg hx hr k1).1 h2⟩
  · rintro ⟨s, h1, h2⟩
    obtain ⟨h3, h4⟩ := beg_iff.1 h1
    exact ⟨s, beg_iff.2 ⟨by simp; omega, by rw [ext_nm h3]; exact h4⟩, (ext_rch hg hx hr h3).2 h2⟩
open Classical in
theorem ext_reach (hg : Good g) (hx : x ∉ names g) (hr : ∀ i ∈ r, i < g.length) {l : List Txt} (hl : x ∉ l) (i : Nat) : reachB (g ++ [⟨x, r⟩]) (begF (g ++ [⟨x, r⟩]) l) i = reachB g (begF g l) i := by
  unfold reachB
  rw [Bool.eq_iff_iff, decide_eq_true_eq, decide_eq_true_eq]
  exact ext_from hg hx hr hl
open Classical in
theorem ext_miss (hg : Good g) (hx : x ∉ names g) (hr : ∀ i ∈ r, i < g.length) {l m : List Txt} (hl : x ∉ l) (hm : x ∉ m) : missN (g ++ [⟨x, r⟩]) l m = missN g l m := by
  unfold missN
  have e : (g ++ [(⟨x, r⟩ : Nd)]).length = g.length + 1 := by simp
  rw [e, List.range_succ, List.filter_append]
  have hz : reachB (g ++ [⟨x, r⟩]) (begF (g ++ [⟨x, r⟩]) l) g.length = false := by
    rw [ext_reach hg hx hr hl]
    unfold reachB
    rw [decide_eq_false_iff_not]
    rintro ⟨s, h1, h2⟩
    have h3 := (beg_iff.1 h1).1
    have := h2.le hg
    omega
  rw [List.filter_cons_of_neg (by rw [hz]; simp), List.filter_nil, List.append_nil]
  have e2 : (List.range g.length).filter (fun i => reachB (g ++ [⟨x, r⟩]) (begF (g ++ [⟨x, r⟩]) l) i && !reachB (g ++ [⟨x, r⟩]) (begF (g ++ [⟨x, r⟩]) m) i) = (List.range g.length).filter (fun i => reachB g (begF g l) i && !reachB g (begF g m) i) := by
    apply List.filter_congr
    intro i _
    rw [ext_reach hg hx hr hl, ext_reach hg hx hr hm]
  rw [e2]
  apply List.map_congr_left
  intro i hi
  have := List.mem_range.1 (List.mem_filter.1 hi).1
  exact ext_nm this
theorem ext_new (hg : Good g) (hx : x ∉ names g) (hr : ∀ i ∈ r, i < g.length) {p : Txt} (hp : idxN g p < g.length) (hpr : idxN g p ∈ r) : comesB (g ++ [⟨x, r⟩]) x p = true ∧ comesB (g ++ [⟨x, r⟩]) p x = false := by
  have hG := ext_good hg hx hr
  have e1 : idxN (g ++ [(⟨x, r⟩ : Nd)]) x = g.length := (idx_push r (out_idx hx) x).2.2 rfl
  have e2 := ext_idx (r := r) hx hp
  constructor
  · rw [comes_iff hG, e1, e2]
    refine ⟨by simp, by simp; omega, .step (j := idxN g p) ?_ (.refl _)⟩
    rw [ps_push, if_pos rfl]; exact hpr
  · rw [← Bool.not_eq_true, comes_iff hG, e1, e2]
    rintro ⟨_, _, h⟩
    have := h.le hG
    omega
end
theorem add_shape {g : Gr} (_hg : Good g) {x : Txt} {l : List Txt} (hx : x ∉ names g) (hall : ∀ y ∈ l, y ∈ names g) : addG g x l = g ++ [⟨x, (ascN l).map (idxN g)⟩] ∧ (∀ i ∈ (ascN l).map (idxN g), i < g.length) ∧ ∀ p ∈ l, idxN g p < g.length ∧ idxN g p ∈ (ascN l).map (idxN g) := by
  refine ⟨by unfold addG; rw [if_neg (by rintro (h | h); exact hx h; exact h hall)], fun i hi => ?_, fun p hp => ⟨in_names.1 (hall p hp), List.mem_map.2 ⟨p, (mem_ascN l p).2 hp, rfl⟩⟩⟩
  obtain ⟨y, hy, rfl⟩ := List.mem_map.1 hi
  exact in_names.1 (hall y ((mem_ascN l y).1 hy))
end Go.Proofs.Ytfphkbbgbfnhaaa
