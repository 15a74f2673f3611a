/- What some lack that others have: the mathematics of the law DagMissing; a set of texts as a map. -/
import Derived.Test.YtfphkbbgbfnhaaaDagCb
namespace Go.Proofs.Ytfphkbbgbfnhaaa
open Go.RowKit Go.Shelf Go.Maps Go.Lib Go.Sort

open Classical in
theorem miss_mem {g : Gr} {l m : List Txt} {x : Txt} : x ∈ missN g l m ↔ ∃ i, i < g.length ∧ nmOf g i = x ∧ From g (begF g l) i ∧ ¬ From g (begF g m) i := by
  unfold missN reachB
  rw [List.mem_map]
  constructor
  · rintro ⟨i, hi, rfl⟩
    obtain ⟨h1, h2⟩ := List.mem_filter.1 hi
    simp at h1 h2
    exact ⟨i, h1, rfl, h2.1, h2.2⟩
  · rintro ⟨i, h1, rfl, h2, h3⟩
    exact ⟨i, List.mem_filter.2 ⟨by simpa using h1, by simp [h2, h3]⟩, rfl⟩
theorem from_nil {g : Gr} {i : Nat} : ¬ From g (begF g []) i := by
  rintro ⟨s, h1, _⟩
  have := (beg_iff.1 h1).2
  cases this
theorem from_more {g : Gr} {l m : List Txt} (h : ∀ x ∈ l, x ∈ m) {i : Nat} (hf : From g (begF g l) i) : From g (begF g m) i := by
  obtain ⟨s, h1, h2⟩ := hf
  obtain ⟨h3, h4⟩ := beg_iff.1 h1
  exact ⟨s, beg_iff.2 ⟨h3, h _ h4⟩, h2⟩
theorem from_down {g : Gr} {l : List Txt} {i j : Nat} (hf : From g (begF g l) i) (hj : j ∈ psOf g i) : From g (begF g l) j := by
  obtain ⟨s, h1, h2⟩ := hf
  exact ⟨s, h1, h2.snoc hj⟩
open Classical in
theorem miss_at {g : Gr} (hg : Good g) {l m : List Txt} {k : Nat} (hk : k < (missN g l m).length) :
    ∃ i, i < g.length ∧ (missN g l m).getD k [] = nmOf g i ∧ From g (begF g l) i ∧ ¬ From g (begF g m) i ∧ (∀ j, j < i → From g (begF g l) j → ¬ From g (begF g m) j → nmOf g j ∈ (missN g l m).take k) ∧ nmOf g i ∉ (missN g l m).take k := by
  rw [getD_at hk]
  unfold missN reachB at hk ⊢
  have hP : ((List.range g.length).filter (fun i => decide (From g (begF g l) i) && !decide (From g (begF g m) i))).Pairwise (· < ·) := List.pairwise_lt_range.filter _
  have hM : ∀ i, i ∈ (List.range g.length).filter (fun i => decide (From g (begF g l) i) && !decide (From g (begF g m) i)) ↔ i < g.length ∧ From g (begF g l) i ∧ ¬ From g (begF g m) i := fun i => by
    rw [List.mem_filter]; simp
  generalize (List.range g.length).filter (fun i => decide (From g (begF g l) i) && !decide (From g (begF g m) i)) = F at *
  rw [List.length_map] at hk
  rw [List.getElem_map, ← List.map_take]
  have hi := (hM F[k]).1 (List.getElem_mem hk)
  have hs : F = F.take k ++ F[k] :: F.drop (k + 1) := by rw [← List.drop_eq_getElem_cons hk]; exact (List.take_append_drop k F).symm
  generalize F[k] = i at *
  have hP2 := hP
  rw [hs, List.pairwise_append] at hP2
  obtain ⟨_, p2, p3⟩ := hP2
  rw [List.pairwise_cons] at p2
  refine ⟨i, hi.1, rfl, hi.2.1, hi.2.2, fun j hj h1 h2 => ?_, fun hn => ?_⟩
  · have hjF := (hM j).2 ⟨by omega, h1, h2⟩
    rw [hs, List.mem_append, List.mem_cons] at hjF
    rcases hjF with h | h | h
    · exact List.mem_map.2 ⟨j, h, rfl⟩
    · omega
    · have := p2.1 j h; omega
  · obtain ⟨a, ha, he⟩ := List.mem_map.1 hn
    have h1 := p3 a ha i (List.mem_cons_self ..)
    have h2 := nm_inj hg (by omega) hi.1 he
    omega
theorem par_of {g : Gr} {i : Nat} (hg : Good g) (hi : i < g.length) : parN g (nmOf g i) = (psOf g i).map (nmOf g) := by
  unfold parN
  rw [idx_nm hg hi, if_pos hi]
theorem miss_len (g : Gr) (l m : List Txt) : (missN g l m).length ≤ g.length := by
  unfold missN
  rw [List.length_map]
  have := List.length_filter_le (fun i => reachB g (begF g l) i && !reachB g (begF g m) i) (List.range g.length)
  rwa [List.length_range] at this
/-- What is lacking stands behind its parents, each once. -/
theorem miss_round {g : Gr} (hg : Good g) {l m : List Txt} {k : Nat} (hk : k < (missN g l m).length) :
    (∀ p ∈ parN g ((missN g l m).getD k []), p ∈ missN g m [] ++ (missN g l m).take k) ∧ (missN g l m).getD k [] ∉ missN g m [] ++ (missN g l m).take k ∧ (missN g l m).getD k [] ∈ names g := by
  obtain ⟨i, h1, h2, h3, h4, h5, h6⟩ := miss_at hg hk
  rw [h2]
  refine ⟨fun p hp => ?_, fun hn => ?_, ?_⟩
  · rw [par_of hg h1] at hp
    obtain ⟨j, hj, rfl⟩ := List.mem_map.1 hp
    have hji := (down_lt hg hj).1
    rw [List.mem_append]
    rcases Classical.em (From g (begF g m) j) with h | h
    · exact Or.inl (miss_mem.2 ⟨j, by omega, rfl, h, from_nil⟩)
    · exact Or.inr (h5 j hji (from_down h3 hj) h)
  · rcases List.mem_append.1 hn with h | h
    · obtain ⟨j, h7, h8, h9, _⟩ := miss_mem.1 h
      have := nm_inj hg h7 h1 h8
      subst this
      exact h4 h9
    · exact h6 h
  · rw [in_names, idx_nm hg h1]; exact h1
theorem miss_all {g : Gr} {l m : List Txt} {x : Txt} (h : x ∈ missN g l []) : x ∈ missN g m [] ++ missN g l m := by
  obtain ⟨i, h1, h2, h3, _⟩ := miss_mem.1 h
  rw [List.mem_append]
  rcases Classical.em (From g (begF g m) i) with h4 | h4
  · exact Or.inl (miss_mem.2 ⟨i, h1, h2, h4, from_nil⟩)
  · exact Or.inr (miss_mem.2 ⟨i, h1, h2, h3, h4⟩)
theorem miss_none {g : Gr} (l m : List Txt) : missN g l (m ++ l) = [] := by
  rw [List.eq_nil_iff_forall_not_mem]
  intro x hx
  obtain ⟨i, _, _, h3, h4⟩ := miss_mem.1 hx
  exact h4 (from_more (fun y hy => List.mem_append_right _ hy) h3)
theorem miss_name {g : Gr} (hg : Good g) {l m : List Txt} {x : Txt} (h : x ∈ missN g l m) : x ∈ names g := by
  obtain ⟨i, h1, rfl, _⟩ := miss_mem.1 h
  rw [in_names, idx_nm hg h1]; exact h1
theorem par_name {g : Gr} (hg : Good g) {x p : Txt} (h : p ∈ parN g x) : p ∈ names g := by
  unfold parN at h
  split at h
  · obtain ⟨j, hj, rfl⟩ := List.mem_map.1 h
    have := down_lt hg hj
    rw [in_names, idx_nm hg (by omega)]; omega
  · cases h
/-- A truth, as a datum. -/
def boolR : Value → Option (DataW Unit × List MemPlace)
  | .bool b => some (.lit (.bool b), [])
  | _ => none
theorem boolR_inv {v : Value} {b : Bool} {ps : List MemPlace} (h : boolR v = some (.lit (.bool b), ps)) : v = .bool b := by
  unfold boolR at h
  split at h
  · simp only [Option.some.injEq, Prod.mk.injEq, DataW.lit.injEq, Lit.bool.injEq] at h
    rw [h.1]
  · cases h
/-- A map that holds just these texts. -/
def SetAt (w : World) (bm n : Nat) (T : List Txt) : Prop := ∃ D : DataW Unit, w.ownsMap Try.prog 9 boolR bm n D ∧ Tidy D ∧ ∀ x, D.atKey (.string x) (.lit (.bool false)) = .lit (.bool (decide (x ∈ T)))
theorem SetAt.kept {w w' : World} {bm n : Nat} {T : List Txt} (h : SetAt w bm n T) (hk : w'.heap[bm]? = w.heap[bm]?) : SetAt w' bm n T := by
  obtain ⟨D, ⟨es, clock, hb, F, hs2, hD⟩, h2, h3⟩ := h
  exact ⟨D, ⟨es, clock, hk.trans hb, F, hs2, hD⟩, h2, h3⟩
theorem SetAt.made (w : World) : SetAt (w.alloc (.map #[] 0)) w.heap.size 0 [] := ⟨_, World.ownsMap_made w _ _ _, tidy_empty, fun x => by simp [DataW.atKey]⟩
theorem zeroBool (w : World) : (zeroValue 4).run Try.prog w = .ok (.bool false) w := by kernel_rfl
theorem SetAt.look {w : World} {bm n : Nat} {T : List Txt} (h : SetAt w bm n T) {x : Txt} (hx : x.length ≤ 4194304) {r : Bool} (hr : decide (x ∈ T) = r) :
    (Instr.lookup 48 (.map (some bm)) (.string ⟨x.toArray⟩) false).run Try.prog w = .ok (.bool r) w := by
  subst hr
  obtain ⟨D, h1, _, h3⟩ := h
  obtain ⟨v, ps, hrun, hv⟩ := h1.lookup keyLaw Try.underlying48 (zeroBool w) (zd := .lit (.bool false)) (zp := []) rfl (key_of hx)
  rw [h3] at hv
  rw [hrun, boolR_inv hv]
theorem SetAt.pushed {w : World} {bm n : Nat} {T : List Txt} {D : DataW Unit} {x : Txt} (h1 : w.ownsMap Try.prog 9 boolR bm n (D.put (.string x) (.lit (.bool true)))) (h2 : Tidy D) (h3 : ∀ x, D.atKey (.string x) (.lit (.bool false)) = .lit (.bool (decide (x ∈ T)))) : SetAt w bm n (T ++ [x]) := by
  have hkl : WideAt.IsKeyLit (.string x) := trivial
  refine ⟨_, h1, h2.put hkl _, fun y => ?_⟩
  by_cases e : y = x
  · subst e
    rw [atKey_put_same h2.isMap hkl]; simp
  · rw [atKey_put_other (fun e2 => e (by injection e2)), h3 y]
    simp [e]
end Go.Proofs.Ytfphkbbgbfnhaaa
