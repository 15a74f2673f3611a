/- A graph with one node more: as a list, and in memory. -/
import Derived.Test.YtfphkbbgbfnhaaaDagO
namespace Go.Proofs.Ytfphkbbgbfnhaaa
open Go.RowKit Go.Shelf Go.Maps Go.Lib Go.Sort

theorem srcP_one (w : World) (a : Option Addr) : Src Try.prog 1 61 (.slice (some ⟨w.heap.size, 0, none⟩) 1 1) 1 [.pointer a] (w.alloc (.cells #[.pointer a] 59)) :=
  Src.ofSlice _ Try.underlying61 _ 1 1 _ rfl (news_one _ _ _) (fun u hu => by rw [List.mem_singleton] at hu; subst hu; rfl)
theorem nm_push (g : Gr) (x : Txt) (r : List Nat) (i : Nat) : nmOf (g ++ [⟨x, r⟩]) i = if i = g.length then x else nmOf g i := by
  unfold nmOf
  rw [List.map_append]
  by_cases h : i < g.length
  · rw [if_neg (by omega)]; simp [List.getD, List.getElem?_append_left (show i < (g.map (·.name)).length by simpa using h)]
  · by_cases e : i = g.length
    · subst e; rw [if_pos rfl]; simp [List.getD]
    · rw [if_neg e]; simp [List.getD, List.getElem?_append_right (show (g.map (·.name)).length ≤ i by simp; omega), show ¬ i < g.length by omega, show ¬ i - g.length = 0 by omega]
theorem ps_push (g : Gr) (x : Txt) (r : List Nat) (i : Nat) : psOf (g ++ [⟨x, r⟩]) i = if i = g.length then r else psOf g i := by
  unfold psOf
  rw [List.map_append]
  by_cases h : i < g.length
  · rw [if_neg (by omega)]; simp [List.getD, List.getElem?_append_left (show i < (g.map (·.ps)).length by simpa using h)]
  · by_cases e : i = g.length
    · subst e; rw [if_pos rfl]; simp [List.getD]
    · rw [if_neg e]; simp [List.getD, List.getElem?_append_right (show (g.map (·.ps)).length ≤ i by simp; omega), show ¬ i < g.length by omega, show ¬ i - g.length = 0 by omega]
theorem not_idx {g : Gr} {x : Txt} (h : ¬ idxN g x < g.length) : x ∉ g.map (·.name) := fun hm => h (idx_lt_iff.2 hm)
theorem idx_push {g : Gr} {x : Txt} (r : List Nat) (h : ¬ idxN g x < g.length) (y : Txt) : (idxN (g ++ [(⟨x, r⟩ : Nd)]) y < (g ++ [(⟨x, r⟩ : Nd)]).length ↔ (idxN g y < g.length ∨ y = x)) ∧ (idxN g y < g.length → idxN (g ++ [(⟨x, r⟩ : Nd)]) y = idxN g y) ∧ (y = x → idxN (g ++ [(⟨x, r⟩ : Nd)]) y = g.length) := by
  refine ⟨?_, fun hy => ?_, fun e => ?_⟩
  · rw [idx_lt_iff, idx_lt_iff, List.map_append, List.mem_append]; simp
  · unfold idxN
    rw [List.map_append, List.idxOf_append, if_pos (idx_lt_iff.1 hy)]
  · subst e
    unfold idxN
    rw [List.map_append, List.idxOf_append, if_neg (not_idx h)]
    simp
theorem good_push {g : Gr} (hg : Good g) {x : Txt} {r : List Nat} (h : ¬ idxN g x < g.length) (hr : ∀ i ∈ r, i < g.length) : Good (g ++ [(⟨x, r⟩ : Nd)]) := by
  refine ⟨?_, fun i hi j hj => ?_⟩
  · rw [List.map_append, List.nodup_append]
    refine ⟨hg.nodup, by simp, fun a ha b hb e => ?_⟩
    simp at hb
    subst hb e
    exact not_idx h ha
  · rw [ps_push] at hj
    simp at hi
    split at hj
    · rename_i e; have := hr j hj; omega
    · exact hg.down i (by omega) j hj
theorem pv_congr {mb mb2 : Nat → Nat} {l : List Nat} (h : ∀ i ∈ l, mb2 i = mb i) : pv mb2 l = pv mb l := by
  unfold pv
  exact List.map_congr_left (fun i hi => by rw [h i hi])
/-- One node more. -/
theorem GrAt.push {B : Nat} {S : Nat → Prop} {w wz : World} {bg bm nb : Nat} {va va2 v : Value} {D : DataW Unit} {mb : Nat → Nat} {g : Gr} (h : GrAt B S w bg bm va D mb g) {x : Txt} {r : List Nat} (hx : ¬ idxN g x < g.length) (hxl : x.length ≤ 4194304) (hr : ∀ i ∈ r, i < g.length) (hlen : g.length < 65536)
    (hB : B ≤ w.heap.size) (hnb : w.heap.size ≤ nb ∧ nb < wz.heap.size) (hvb : ∀ k, v.ownBlock = some k → w.heap.size ≤ k ∧ k < wz.heap.size)
    (hk : ∀ k, S k → k ≠ bg → k ≠ bm → wz.heap[k]? = w.heap[k]?)
    (hrow : wz.ownsRow B 59 1 va2 (g.length + 1) (pv mb (List.range g.length) ++ [.pointer (some ⟨nb, 0, none⟩)])) (hrS : ∀ k, va2.ownBlock = some k → ¬ S k ∧ k ≠ nb ∧ v.ownBlock ≠ some k)
    (c0 : wz.cell? ⟨bg, 0, none⟩ = some (.map (some bm))) (c1 : wz.cell? ⟨bg, 1, none⟩ = some va2) (f1 : wz.frozen? ⟨bg, 1, none⟩ = false)
    (hm : wz.ownsMap Try.prog 9 ptrR bm (g.length + 1) (D.put (.string x) (.lit (.int .i64 (nb : Int)))))
    (hblk : wz.heap[nb]? = some (.cells #[.string ⟨x.toArray⟩, .int .i64 (g.length : Int), v] 65 (0, 0))) (hcs : CellsC (fun k => v.ownBlock = some k) wz v r.length 1 (pv mb r)) :
    GrAt B (fun k => S k ∨ k = nb ∨ v.ownBlock = some k) wz bg bm va2 (D.put (.string x) (.lit (.int .i64 (nb : Int)))) (fun i => if i = g.length then nb else mb i) (g ++ [⟨x, r⟩]) := by
  have hl : (g ++ [(⟨x, r⟩ : Nd)]).length = g.length + 1 := by simp
  have hbgm : bg ≠ bm := fun e => by
    obtain ⟨es, ck, hb, _⟩ := h.own
    have := h.c0
    rw [e] at this
    unfold World.cell? at this
    simp [hb] at this
  have hold : ∀ i, i < g.length → mb i ≠ bg ∧ mb i ≠ bm := fun i hi => by
    obtain ⟨v0, hb, _⟩ := h.blk i hi
    refine ⟨fun e => ?_, fun e => ?_⟩
    · have := h.c0
      rw [← e, cell_of_row _ _ _ _ _ _ hb] at this
      simp at this
    · obtain ⟨es, ck, hb2, _⟩ := h.own
      rw [← e, hb] at hb2; cases hb2
  have hmbr : ∀ i, i < g.length → (fun i => if i = g.length then nb else mb i) i = mb i := fun i hi => if_neg (by omega)
  have hkl : WideAt.IsKeyLit (.string x) := trivial
  have hSlt : ∀ k, S k → k < w.heap.size := fun k hk => (h.dom k hk).2
  refine ⟨good_push h.good hx hr, by rw [hl]; omega, fun i => ?_, fun k hk => ?_, Or.inl h.sg, Or.inl h.sm, fun i hi => ?_, fun i j hi hj hij => ?_, ?_, fun k hk => ?_, c0, c1, f1, by rw [hl]; exact hm, ?_, fun y => ?_, fun i hi => ?_⟩
  · rw [nm_push]; split
    · exact hxl
    · exact h.txt i
  · rcases hk with hk | rfl | hk
    · have := h.dom k hk; omega
    · omega
    · have := hvb k hk; omega
  · show S (if i = g.length then nb else mb i) ∨ _
    by_cases e : i = g.length
    · rw [if_pos e]; exact Or.inr (Or.inl rfl)
    · rw [if_neg e]; exact Or.inl (h.smb i (by omega))
  · rw [hl] at hi hj
    by_cases e : i = g.length
    · by_cases e2 : j = g.length
      · omega
      · rw [if_pos e, if_neg e2] at hij
        have := hSlt _ (h.smb j (by omega)); omega
    · by_cases e2 : j = g.length
      · rw [if_neg e, if_pos e2] at hij
        have := hSlt _ (h.smb i (by omega)); omega
      · rw [if_neg e, if_neg e2] at hij
        exact h.inj i j (by omega) (by omega) hij
  · have e : pv (fun i => if i = g.length then nb else mb i) (List.range (g ++ [(⟨x, r⟩ : Nd)]).length) = pv mb (List.range g.length) ++ [.pointer (some ⟨nb, 0, none⟩)] := by
      rw [hl, List.range_succ]
      unfold pv
      rw [List.map_append]
      congr 1
      · exact List.map_congr_left (fun i hi => by rw [hmbr i (by simpa using hi)])
      · simp
    rw [e, hl]
    exact hrow
  · obtain ⟨a1, a2, a3⟩ := hrS k hk
    rintro (b | b | b)
    · exact a1 b
    · exact a2 b
    · exact a3 b
  · exact h.tidy.put hkl _
  · obtain ⟨i1, i2, i3⟩ := idx_push r hx y
    by_cases e : y = x
    · subst e
      rw [atKey_put_same h.tidy.isMap hkl, if_pos (i1.2 (Or.inr rfl)), i3 rfl]
      simp
    · rw [atKey_put_other (fun e2 => e (by injection e2)), h.at_ y]
      by_cases hy : idxN g y < g.length
      · rw [if_pos hy, if_pos (i1.2 (Or.inl hy)), i2 hy, if_neg (by omega)]
      · rw [if_neg hy, if_neg (fun h2 => (i1.1 h2).elim hy e)]
  · rw [hl] at hi
    by_cases e : i = g.length
    · subst e
      refine ⟨v, ?_, ?_⟩
      · rw [nm_push, if_pos rfl, if_pos rfl]
        exact hblk
      · rw [ps_push, if_pos rfl, pv_congr (fun i hi => hmbr i (hr i hi))]
        refine hcs.kept (fun k hk => ⟨⟨Or.inr (Or.inr hk), ?_, ?_⟩, rfl⟩)
        · have := hvb k hk; have := hSlt _ h.sg; omega
        · have := hvb k hk; have := hSlt _ h.sm; omega
    · obtain ⟨v0, b1, b2⟩ := h.blk i (by omega)
      refine ⟨v0, ?_, ?_⟩
      · rw [nm_push, if_neg e, if_neg e]
        obtain ⟨q1, q2⟩ := hold i (by omega)
        exact (hk _ (h.smb i (by omega)) q1 q2).trans b1
      · rw [ps_push, if_neg e, pv_congr (fun j hj => hmbr j (by have := down_lt h.good hj; omega))]
        exact b2.kept (fun k hS => ⟨⟨Or.inl hS.1, hS.2⟩, hk k hS.1 hS.2.1 hS.2.2⟩)
end Go.Proofs.Ytfphkbbgbfnhaaa
