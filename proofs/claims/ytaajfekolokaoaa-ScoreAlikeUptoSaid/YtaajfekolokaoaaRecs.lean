/- Slices of records in memory, by what each record reads as; rows of one's own of such. -/
import Derived.Test.YtaajfekolokaoaaCells
namespace Go.Proofs.Ytaajfekolokaoaa
open Go.RowKit

/-- A slice value whose elements of sz cells each read as these things. -/
def RowsC {E : Type} (rel : (Nat → Prop) → World → E → List Value → Prop) (sz : Nat) (S : Nat → Prop) (w : World) (v : Value) (es : List E) : Prop :=
  ∃ css : List (List Value), css.length = es.length ∧ (∀ cs ∈ css, cs.length = sz) ∧ CellsC S w v es.length sz css.flatten ∧ ∀ (j : Nat) (e : E) (cs : List Value), es[j]? = some e → css[j]? = some cs → rel S w e cs
/-- What stays so while blocks stay. -/
def Keeps {E : Type} (rel : (Nat → Prop) → World → E → List Value → Prop) : Prop := ∀ (S S' : Nat → Prop) (w w' : World) (e : E) (cs : List Value), rel S w e cs → (∀ k, S k → S' k ∧ w'.heap[k]? = w.heap[k]?) → rel S' w' e cs
theorem RowsC.kept {E : Type} {rel : (Nat → Prop) → World → E → List Value → Prop} (hr : Keeps rel) {sz : Nat} {S S' : Nat → Prop} {w w' : World} {v : Value} {es : List E} (h : RowsC rel sz S w v es) (hk : ∀ k, S k → S' k ∧ w'.heap[k]? = w.heap[k]?) : RowsC rel sz S' w' v es := by
  obtain ⟨css, h1, h2, h3, h4⟩ := h
  exact ⟨css, h1, h2, h3.kept hk, fun j e cs he hc => hr S S' w w' e cs (h4 j e cs he hc) hk⟩
theorem RowsC.shape {E : Type} {rel : (Nat → Prop) → World → E → List Value → Prop} {sz : Nat} {S : Nat → Prop} {w : World} {v : Value} {es : List E} (h : RowsC rel sz S w v es) : ∃ a c, v = .slice a es.length c := by
  obtain ⟨css, _, _, h3, _⟩ := h
  exact h3.shape
theorem flatten_at {sz : Nat} : ∀ (css : List (List Value)) (k : Nat) (cs : List Value), (∀ c ∈ css, c.length = sz) → css[k]? = some cs → ∀ i, i < sz → css.flatten[k * sz + i]? = cs[i]?
  | [], _, _, _, h, _, _ => by simp at h
  | c :: css, 0, cs, hs, h, i, hi => by
    simp at h; subst h
    rw [List.flatten_cons, Nat.zero_mul, Nat.zero_add, List.getElem?_append_left (by rw [hs c List.mem_cons_self]; exact hi)]
  | c :: css, k + 1, cs, hs, h, i, hi => by
    have ih := flatten_at css k cs (fun x hx => hs x (List.mem_cons_of_mem _ hx)) (by simpa using h) i hi
    have hc := hs c List.mem_cons_self
    have e : (k + 1) * sz + i = sz + (k * sz + i) := by rw [Nat.add_mul]; omega
    rw [List.flatten_cons, List.getElem?_append_right (by rw [hc, e]; omega), ← ih, hc, e, Nat.add_sub_cancel_left]
theorem flatten_len {sz : Nat} : ∀ (css : List (List Value)), (∀ c ∈ css, c.length = sz) → css.flatten.length = css.length * sz
  | [], _ => by simp
  | c :: css, hs => by
    have ih := flatten_len css (fun x hx => hs x (List.mem_cons_of_mem _ hx))
    rw [List.flatten_cons, List.length_append, ih, hs c List.mem_cons_self, List.length_cons, Nat.add_mul]; omega
/-- One element of such a slice: its cells, and what they read as. -/
theorem RowsC.at {E : Type} {rel : (Nat → Prop) → World → E → List Value → Prop} {sz : Nat} {S : Nat → Prop} {w : World} {a : Option Addr} {c : Nat} {es : List E} (h : RowsC rel sz S w (.slice a es.length c) es) (hn : 0 < es.length) :
    ∃ g o, a = some ⟨g, o, none⟩ ∧ S g ∧ es.length ≤ c ∧ c ≤ 9223372036854775807 ∧ ∀ k e, es[k]? = some e → ∃ cs, cs.length = sz ∧ rel S w e cs ∧ ∀ i x, cs[i]? = some x → w.cell? ⟨g, o + (k * sz + i), none⟩ = some x := by
  obtain ⟨css, h1, h2, h3, h4⟩ := h
  obtain ⟨g, o, k1, k2, k3, k4, k5⟩ := h3.at hn
  refine ⟨g, o, k1, k2, k3, k4, fun k e he => ?_⟩
  have hk : k < css.length := by rw [h1]; exact (List.getElem?_eq_some_iff.1 he).1
  have hc : css[k]? = some css[k] := List.getElem?_eq_getElem hk
  have hcl := h2 _ (List.getElem_mem hk)
  refine ⟨css[k], hcl, h4 k e _ he hc, fun i x hx => ?_⟩
  have hi : i < sz := by rw [← hcl]; exact (List.getElem?_eq_some_iff.1 hx).1
  exact k5 _ _ ((flatten_at css k _ h2 hc i hi).trans hx)
/-- A row of one's own whose elements read as these things, by blocks that are not the row's. -/
structure OwnR {E : Type} (rel : (Nat → Prop) → World → E → List Value → Prop) (t : TypeId) (sz : Nat) (S : Nat → Prop) (w : World) (B : Nat) (v : Value) (css : List (List Value)) (es : List E) : Prop where
  own : w.ownsRow B t sz v es.length css.flatten
  len : css.length = es.length
  each : ∀ cs ∈ css, cs.length = sz
  one : ∀ u ∈ css.flatten, u.oneCell' = true
  reads : ∀ (j : Nat) (e : E) (cs : List Value), es[j]? = some e → css[j]? = some cs → rel (fun k => S k ∧ k < w.heap.size ∧ v.ownBlock ≠ some k) w e cs
theorem OwnR.nil {E : Type} (rel : (Nat → Prop) → World → E → List Value → Prop) (t : TypeId) (sz : Nat) (S : Nat → Prop) (w : World) (B : Nat) : OwnR rel t sz S w B (.slice none 0 0) [] [] :=
  ⟨World.ownsRow_nil _ _ _ _, rfl, fun _ h => (by cases h), fun _ h => (by cases h), fun j e cs h _ => by simp at h⟩
/-- One element more. -/
theorem OwnR.push {E : Type} {rel : (Nat → Prop) → World → E → List Value → Prop} (hr : Keeps rel) {t : TypeId} {sz B : Nat} {S : Nat → Prop} {w w2 w4 : World} {v v' : Value} {css : List (List Value)} {es : List E} {cs : List Value} {e : E} (h : OwnR rel t sz S w B v css es)
    (h1 : ∀ k, k < w.heap.size → v.ownBlock ≠ some k → w2.heap[k]? = w.heap[k]?) (hs : w.heap.size ≤ w2.heap.size) (hg : Grew w2 w4 v v') (hcs : cs.length = sz) (hc1 : ∀ u ∈ cs, u.oneCell' = true)
    (hown : w4.ownsRow B t sz v' (es.length + 1) (css.flatten ++ cs)) (hnew : rel (fun k => S k ∧ k < w2.heap.size ∧ v.ownBlock ≠ some k) w2 e cs) : OwnR rel t sz S w4 B v' (css ++ [cs]) (es ++ [e]) := by
  have hs4 := hg.size
  have keep : ∀ k, k < w2.heap.size → v.ownBlock ≠ some k → (k < w4.heap.size ∧ v'.ownBlock ≠ some k) ∧ w4.heap[k]? = w2.heap[k]? := fun k hk hne => by
    refine ⟨⟨by omega, fun e => ?_⟩, hg.gb.block k hk (fun e => hne e.symm)⟩
    rcases hg.own k e with e2 | e2
    · exact hne e2
    · omega
  refine ⟨by rw [List.length_append, List.flatten_append]; simpa using hown, by simp [h.len], fun c hc => ?_, fun u hu => ?_, fun j x c hx hc => ?_⟩
  · rcases List.mem_append.1 hc with hc | hc
    · exact h.each c hc
    · rw [List.mem_singleton] at hc; rw [hc]; exact hcs
  · rw [List.flatten_append] at hu
    rcases List.mem_append.1 hu with hu | hu
    · exact h.one u hu
    · simp at hu; exact hc1 u hu
  · by_cases hj : j < es.length
    · rw [List.getElem?_append_left hj] at hx
      rw [List.getElem?_append_left (by rw [h.len]; exact hj)] at hc
      refine hr _ _ _ _ _ _ (h.reads j x c hx hc) (fun k ⟨k1, k2, k3⟩ => ?_)
      obtain ⟨⟨a1, a2⟩, a3⟩ := keep k (by omega) k3
      exact ⟨⟨k1, a1, a2⟩, a3.trans (h1 k k2 k3)⟩
    · have hj2 : j = es.length := by
        have := (List.getElem?_eq_some_iff.1 hx).1
        simp at this; omega
      subst hj2
      rw [List.getElem?_append_right (Nat.le_refl _), Nat.sub_self] at hx
      rw [← h.len, List.getElem?_append_right (Nat.le_refl _), Nat.sub_self] at hc
      simp at hx hc
      subst hx hc
      refine hr _ _ _ _ _ _ hnew (fun k ⟨k1, k2, k3⟩ => ?_)
      obtain ⟨⟨a1, a2⟩, a3⟩ := keep k k2 k3
      exact ⟨⟨k1, a1, a2⟩, a3⟩
theorem OwnR.rows {E : Type} {rel : (Nat → Prop) → World → E → List Value → Prop} (hr : Keeps rel) {t : TypeId} {sz B : Nat} {S : Nat → Prop} {w : World} {v : Value} {css : List (List Value)} {es : List E} (h : OwnR rel t sz S w B v css es) : RowsC rel sz (fun k => (B ≤ k ∨ S k) ∧ k < w.heap.size) w v es :=
  ⟨css, h.len, h.each, (own_cells h.own h.one).kept (fun _ hk => ⟨⟨Or.inl hk.1, hk.2⟩, rfl⟩), fun j e cs he hc => hr _ _ _ _ _ _ (h.reads j e cs he hc) (fun _ hk => ⟨⟨Or.inr hk.1, hk.2.1⟩, rfl⟩)⟩
end Go.Proofs.Ytaajfekolokaoaa
