/- Arguments opened: a slice of records, whatever they are. -/
import Derived.Test.YtfphkbbgbfnhaaaStrOpen
import Derived.Test.YtfphkbbgbfnhaaaRecs
namespace Go.Proofs.Ytfphkbbgbfnhaaa
open Go.RowKit Go.ChangeShapes Go.WideShapes Go.Deep Go.Joins

/-- Values and letters that records hold, at most. -/
def sumR {E : Type} (f : E → Nat) : List E → Nat
  | [] => 0
  | e :: r => f e + sumR f r
theorem sumR_mem {E : Type} (f : E → Nat) : ∀ (l : List E), ∀ e ∈ l, f e ≤ sumR f l
  | [], _, h => by cases h
  | x :: r, e, h => by
    rcases List.mem_cons.1 h with rfl | h
    · simp only [sumR]; omega
    · have := sumR_mem f r e h; simp only [sumR]; omega
theorem sumR_len {E : Type} {f : E → Nat} (hf : ∀ e, 1 ≤ f e) : ∀ l : List E, l.length ≤ sumR f l
  | [] => Nat.zero_le _
  | x :: r => by have := sumR_len hf r; have := hf x; simp only [sumR, List.length_cons]; omega
section
variable {H : Type} {enc : TypeId × Value → H} {W : World}
set_option maxRecDepth 100000 in
theorem open_recs {E : Type} [Inhabited E] {rel : (Nat → Prop) → World → E → List Value → Prop} {sz : Nat} {t ts : TypeId} (hts : Try.prog.underlying ts = some (.slice t)) (hC : Try.prog.cellsOf t = sz) (hsz : 0 < sz) (f : E → Nat)
    (op : ∀ (n : Nat) (cs : List Value) (x : DataW H × List MemPlace), DataW.trod enc Try.prog W 0 (fun _ => true) true n t cs = some x → (∀ p ∈ x.2, p.block < W.heap.size) →
      ∃ e : E, rel (fun k => k < W.heap.size) W e cs ∧ cs.length = sz ∧ (∀ u ∈ cs, u.oneCell' = true) ∧ f e ≤ Rows.uptoBulk x.1)
    {fuel : Nat} {v : Value} {x : DataW H × List MemPlace} (h : DataW.trod enc Try.prog W 0 (fun _ => true) true fuel ts [v] = some x) (hlt : ∀ p ∈ x.2, p.block < W.heap.size) :
    ∃ l, RowsC rel sz (fun k => k < W.heap.size) W v l ∧ sumR f l ≤ Rows.uptoBulk x.1 := by
  rcases open_slice hts h with ⟨hcs, hx⟩ | ⟨a, len, cap, m, n, D, Pl, hcs, hb, hl, hm, hmm, hx, hi⟩
  · injection hcs with hcs _
    subst hcs hx
    exact ⟨[], ⟨[], rfl, fun _ h => (by cases h), CellsC.nil _ _ _ _ _, fun j e cs h _ => by simp at h⟩, Nat.zero_le _⟩
  · injection hcs with hcs _
    subst hcs
    rw [if_pos rfl] at hmm
    subst hmm
    have key : ∀ i, ∃ q : E × List Value, i < len → rel (fun k => k < W.heap.size) W q.1 q.2 ∧ q.2.length = sz ∧ (∀ u ∈ q.2, u.oneCell' = true) ∧ f q.1 ≤ Rows.uptoBulk (D i) ∧ ∀ j u, q.2[j]? = some u → W.cell? ((a.add (i * sz)).add j) = some u := fun i => by
      by_cases hil : i < len
      · obtain ⟨cs', hc, ht⟩ := hi i (by omega)
        obtain ⟨k, r1, r2, r3, r4⟩ := op _ _ _ ht (fun p hp => hlt p (by rw [hx]; exact List.mem_append_right _ (List.mem_flatMap.2 ⟨i, List.mem_range.2 (by omega), hp⟩)))
        obtain ⟨_, _, hat⟩ := World.cells?_some hc
        refine ⟨(k, cs'), fun _ => ⟨r1, r2, r3, r4, fun j u hu => ?_⟩⟩
        have hj : j < sz := by rw [← r2]; exact (List.getElem?_eq_some_iff.1 hu).1
        have h1 := hat j (by rw [hC]; exact hj)
        rw [hC] at h1
        rw [h1]; exact hu
      · exact ⟨(default, []), fun h => absurd h hil⟩
    obtain ⟨F, hF⟩ := Classical.axiomOfChoice key
    have hhl : ((List.range len).map fun i => (F i).1).length = len := by simp
    have hcl : ((List.range len).map fun i => (F i).2).length = len := by simp
    have hhat : ∀ i, i < len → ((List.range len).map fun i => (F i).1)[i]? = some (F i).1 := fun i hi => by simp [hi]
    have hcat : ∀ i, i < len → ((List.range len).map fun i => (F i).2)[i]? = some (F i).2 := fun i hi => by simp [hi]
    have hce : ∀ cs ∈ (List.range len).map fun i => (F i).2, cs.length = sz := fun cs hcs => by
      obtain ⟨i, hi, rfl⟩ := List.mem_map.1 hcs
      exact (hF i (List.mem_range.1 hi)).2.1
    refine ⟨(List.range len).map fun i => (F i).1, ⟨(List.range len).map fun i => (F i).2, by rw [hhl, hcl], hce, ?_, fun j e cs he hc => ?_⟩, ?_⟩
    · by_cases h0 : len = 0
      · subst h0; exact CellsC.nil _ _ _ _ _
      · have h00 := hF 0 (by omega)
        have hsp : a.spot = none := by
          have hl0 : 0 < (F 0).2.length := by rw [h00.2.1]; exact hsz
          have := h00.2.2.2.2 0 _ (List.getElem?_eq_getElem hl0)
          rw [Nat.zero_mul, add_none, add_none] at this
          exact spot_none this
        obtain ⟨g, o, sp⟩ := a
        simp only at hsp
        subst hsp
        refine ⟨by rw [flatten_len _ hce, hcl, hhl], fun u hu => ?_, Or.inr ⟨g, o, m, by rw [hhl], ?_, by rw [hhl]; exact hl, hm, fun j u hj => ?_⟩⟩
        · obtain ⟨cs, hcs, hu⟩ := List.mem_flatten.1 hu
          obtain ⟨i, hi, rfl⟩ := List.mem_map.1 hcs
          exact (hF i (List.mem_range.1 hi)).2.2.1 u hu
        · refine hlt (.cell g (o + 0)) ?_
          rw [hx]
          exact List.mem_append_left _ (MemPlace.mem_row.2 ⟨0, by rw [hC]; exact Nat.mul_pos (by omega) hsz, rfl⟩)
        · have hjl : j < len * sz := by
            have := (List.getElem?_eq_some_iff.1 hj).1
            rwa [flatten_len _ hce, hcl] at this
          have hd : j / sz < len := Nat.div_lt_of_lt_mul (by rw [Nat.mul_comm]; exact hjl)
          have hdm : j / sz * sz + j % sz = j := Nat.div_add_mod' j sz
          have e := flatten_at _ (j / sz) _ hce (hcat _ hd) (j % sz) (Nat.mod_lt _ hsz)
          rw [hdm, hj] at e
          have := (hF _ hd).2.2.2.2 (j % sz) u e.symm
          rw [add_pos, add_pos, Nat.add_assoc, hdm] at this
          exact this
    · have hj : j < len := by
        have := (List.getElem?_eq_some_iff.1 he).1
        rwa [hhl] at this
      rw [hhat j hj] at he
      rw [hcat j hj] at hc
      injection he with he
      injection hc with hc
      subst he hc
      exact (hF j hj).1
    · have hs : ∀ k, k ≤ len → sumR f ((List.range' (len - k) k).map fun i => (F i).1) ≤ Rows.uptoBulkAll ((List.range' (len - k) k).map D) := fun k => by
        induction k with
        | zero => intro _; simp [sumR]
        | succ k ih =>
          intro hk
          have h1 := ih (by omega)
          have h2 := (hF (len - (k + 1)) (by omega)).2.2.2.1
          rw [List.range'_succ, List.map_cons, List.map_cons, show len - (k + 1) + 1 = len - k from by omega]
          simp only [sumR, Rows.uptoBulkAll]
          omega
      have h1 := hs len (Nat.le_refl _)
      rw [Nat.sub_self, ← List.range_eq_range'] at h1
      rw [hx]
      have h2 := (bulk_slice ((List.range len).map D) ((List.range (m - len)).map fun j => D (len + j))).2
      have h3 : Rows.uptoBulk (DataW.slice ((List.range len).map D) ((List.range (m - len)).map fun j => D (len + j))) = Rows.uptoBulk (DataW.slice ((List.range len).map D) ((List.range (m - len)).map fun j => D (len + j)), MemPlace.row a (m * Try.prog.cellsOf t) ++ (List.range m).flatMap Pl).1 := rfl
      rw [← h3]
      omega
end
end Go.Proofs.Ytfphkbbgbfnhaaa
