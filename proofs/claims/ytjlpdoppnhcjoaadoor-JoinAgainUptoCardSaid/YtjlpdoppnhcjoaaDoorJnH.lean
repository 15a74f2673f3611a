/- One cell of a record in a row of one's own; block. -/
import Derived.Test.YtjlpdoppnhcjoaaDoorJnG
namespace Go.Proofs.YtjlpdoppnhcjoaaDoor
open Go.RowKit Go.Lib
theorem flatten_set {sz : Nat} : ∀ (css : List (List Value)) (i k : Nat) (u : Value) (cs : List Value), (∀ c ∈ css, c.length = sz) → css[i]? = some cs → k < sz → css.flatten.set (i * sz + k) u = (css.set i (cs.set k u)).flatten
  | [], i, _, _, _, _, h, _ => by simp at h
  | c :: css, 0, k, u, cs, hl, h, hk => by
    have e : c = cs := by simpa using h
    subst e
    have hc := hl c List.mem_cons_self
    rw [List.flatten_cons, Nat.zero_mul, Nat.zero_add, List.set_append_left _ _ (by omega), List.set_cons_zero, List.flatten_cons]
  | c :: css, i + 1, k, u, cs, hl, h, hk => by
    have hc := hl c List.mem_cons_self
    have h2 : css[i]? = some cs := by simpa using h
    rw [List.flatten_cons, List.set_cons_succ, List.flatten_cons, ← flatten_set css i k u cs (fun x hx => hl x (List.mem_cons_of_mem _ hx)) h2 hk]
    have e : (i + 1) * sz + k = c.length + (i * sz + k) := by rw [hc, Nat.add_mul]; omega
    rw [e, List.set_append_right _ _ (by omega), Nat.add_sub_cancel_left]
theorem OwnR.set_cell {E : Type} {rel : (Nat → Prop) → World → E → List Value → Prop} (hr : Keeps rel) {t : TypeId} {sz B : Nat} {S : Nat → Prop} {w : World} {g cap : Nat} {css : List (List Value)} {es : List E} (h : OwnR rel t sz S w B (.slice (some ⟨g, 0, none⟩) es.length cap) css es) {i k : Nat} {cs : List Value} (hi : css[i]? = some cs) (hk : k < sz) {u : Value} (hu : u.oneCell' = true) {e : E}
    (hnew : rel (fun q => S q ∧ q < w.heap.size ∧ q ≠ g) w e (cs.set k u)) :
    OwnR rel t sz S (w.setCell ⟨g, i * sz + k, none⟩ u) B (.slice (some ⟨g, 0, none⟩) (es.set i e).length cap) (css.set i (cs.set k u)) (es.set i e) := by
  have hcl : cs.length = sz := h.each cs (List.mem_of_getElem? hi)
  have s1 := (h.own.stored (i * sz + k) u).1
  rw [flatten_set css i k u cs h.each hi hk] at s1
  have key : ∀ q, (S q ∧ q < w.heap.size ∧ q ≠ g) → (S q ∧ q < (w.setCell ⟨g, i * sz + k, none⟩ u).heap.size ∧ (Value.slice (some ⟨g, 0, none⟩) (es.set i e).length cap).ownBlock ≠ some q) ∧ (w.setCell ⟨g, i * sz + k, none⟩ u).heap[q]? = w.heap[q]? := fun q hq => ⟨⟨hq.1, by simpa [World.setCell] using hq.2.1, fun e2 => hq.2.2 (by simpa [Value.ownBlock] using e2.symm)⟩, Below.heap_setCell _ _ _ _ hq.2.2⟩
  refine ⟨by rw [List.length_set]; exact s1, by rw [List.length_set, List.length_set]; exact h.len, fun c hc => ?_, fun x hx => ?_, fun j x c hx hc => ?_⟩
  · rcases List.mem_or_eq_of_mem_set hc with hc | rfl
    · exact h.each c hc
    · rw [List.length_set]; exact hcl
  · rw [← flatten_set css i k u cs h.each hi hk] at hx
    rcases List.mem_or_eq_of_mem_set hx with hx | rfl
    · exact h.one x hx
    · exact hu
  · by_cases hj : i = j
    · subst hj
      rw [List.getElem?_set] at hx hc
      rw [if_pos rfl] at hx hc
      split at hc
      · split at hx
        · injection hx with hx; injection hc with hc
          subst hx hc
          exact hr _ _ _ _ _ _ hnew key
        · cases hx
      · cases hc
    · rw [List.getElem?_set_ne hj] at hx hc
      exact hr _ _ _ _ _ _ (h.reads j x c hx hc) (fun q hq => key q ⟨hq.1, hq.2.1, fun e2 => hq.2.2 (by rw [e2]; rfl)⟩)
end Go.Proofs.YtjlpdoppnhcjoaaDoor
