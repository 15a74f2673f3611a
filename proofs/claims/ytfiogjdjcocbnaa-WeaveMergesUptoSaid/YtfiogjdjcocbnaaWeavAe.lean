/- The walk of the reference's Merge. -/
import Derived.Test.YtfiogjdjcocbnaaWeavAc
import Derived.StillTailTactics
import Derived.IntWalk
namespace Go.Proofs.Ytfiogjdjcocbnaa
open Go.RowKit
attribute [local go_sem ↓] Go.wp_at_zero Go.wp_at_succ

/-- What the reference's Merge leaves. -/
def RMergeP (w : World) (M : List (PartN (List UInt8))) (e : Ending) (w' : World) : Prop := ∃ v, e = .returned (.tuple #[v, .int .i64 0]) ∧ PartsC (fun k => k < w'.heap.size) w' v M ∧ Below w.heap.size w w'
def set4at (w : World) (b o : Nat) (v0 v1 v2 v3 : Value) : World := (((w.setCell ⟨b, o, none⟩ v0).setCell ⟨b, o + 1, none⟩ v1).setCell ⟨b, o + 2, none⟩ v2).setCell ⟨b, o + 3, none⟩ v3
theorem set4at_spares (w : World) (b o : Nat) (v0 v1 v2 v3 : Value) : Spares (fun q => q = b) w (set4at w b o v0 v1 v2 v3) :=
  (((Spares.of_set (fun q => q = b) w b o v0 rfl).trans (Spares.of_set (fun q => q = b) _ b (o + 1) v1 rfl) (fun _ _ e => e)).trans (Spares.of_set (fun q => q = b) _ b (o + 2) v2 rfl) (fun _ _ e => e)).trans (Spares.of_set (fun q => q = b) _ b (o + 3) v3 rfl) (fun _ _ e => e)
theorem ownR_split {E : Type} {rel : (Nat → Prop) → World → E → List Value → Prop} {t : TypeId} {B : Nat} {S : Nat → Prop} {w : World} {v : Value} {css : List (List Value)} {ini : List E} {q : E} (h : OwnR rel t 4 S w B v css (ini ++ [q])) :
    ∃ cini c0, css = cini ++ [c0] ∧ cini.length = ini.length ∧ c0.length = 4 ∧ cini.flatten.length = ini.length * 4 := by
  have hl := h.len
  rw [List.length_append] at hl
  have hne : css ≠ [] := fun e => by rw [e] at hl; simp at hl
  obtain ⟨cini, c0, rfl⟩ : ∃ x y, css = x ++ [y] := ⟨css.dropLast, css.getLast hne, (List.dropLast_concat_getLast hne).symm⟩
  simp at hl
  exact ⟨cini, c0, rfl, hl, h.each c0 (by simp), by rw [flatten_len cini (fun c hc => h.each c (by simp [hc])), hl]⟩
/-- The last element of an own row of records, made another. -/
theorem OwnR.set_last {E : Type} {rel : (Nat → Prop) → World → E → List Value → Prop} (hr : Keeps rel) {t : TypeId} {B : Nat} {S : Nat → Prop} {w : World} {g cap : Nat} {css : List (List Value)} {ini : List E} {q : E} (h : OwnR rel t 4 S w B (.slice (some ⟨g, 0, none⟩) (ini ++ [q]).length cap) css (ini ++ [q])) {c0 c1 c2 c3 : Value} (h1 : ∀ u ∈ [c0, c1, c2, c3], u.oneCell' = true)
    {e : E} (hnew : rel (fun k => S k ∧ k < w.heap.size ∧ k ≠ g) w e [c0, c1, c2, c3]) :
    ∃ css', OwnR rel t 4 S (set4at w g (ini.length * 4) c0 c1 c2 c3) B (.slice (some ⟨g, 0, none⟩) (ini ++ [e]).length cap) css' (ini ++ [e]) := by
  obtain ⟨cini, d, rfl, hcl, hd, hfl⟩ := ownR_split h
  have ho := h.own
  have hsp := set4at_spares w g (ini.length * 4) c0 c1 c2 c3
  have s1 := (ho.stored (ini.length * 4) c0).1
  have s2 := (s1.stored (ini.length * 4 + 1) c1).1
  have s3 := (s2.stored (ini.length * 4 + 2) c2).1
  have s4 := (s3.stored (ini.length * 4 + 3) c3).1
  have hlen : (ini ++ [e]).length = (ini ++ [q]).length := by simp
  have hw : (set4at w g (ini.length * 4) c0 c1 c2 c3).heap.size = w.heap.size := by unfold set4at; simp
  have hfin : (((((cini ++ [d]).flatten.set (ini.length * 4) c0).set (ini.length * 4 + 1) c1).set (ini.length * 4 + 2) c2).set (ini.length * 4 + 3) c3) = (cini ++ [[c0, c1, c2, c3]]).flatten := by
    match d, hd with
    | [d0, d1, d2, d3], _ =>
      simp only [List.flatten_append, List.flatten_cons, List.flatten_nil, List.append_nil]
      rw [List.set_append_right _ _ (by omega), List.set_append_right _ _ (by omega), List.set_append_right _ _ (by omega), List.set_append_right _ _ (by omega), hfl]
      simp
  refine ⟨cini ++ [[c0, c1, c2, c3]], ?_, by simp [hcl], fun c hc => ?_, fun u hu => ?_, fun j x c hx hc => ?_⟩
  · rw [hlen, ← hfin]; exact s4
  · rcases List.mem_append.1 hc with hc | hc
    · exact h.each c (by simp [hc])
    · rw [List.mem_singleton] at hc; rw [hc]; rfl
  · simp only [List.flatten_append, List.flatten_cons, List.flatten_nil, List.append_nil] at hu
    rcases List.mem_append.1 hu with hu | hu
    · exact h.one u (by simp only [List.flatten_append]; exact List.mem_append_left _ hu)
    · exact h1 u hu
  · have key : ∀ k, (S k ∧ k < w.heap.size ∧ k ≠ g) → (S k ∧ k < (set4at w g (ini.length * 4) c0 c1 c2 c3).heap.size ∧ (Value.slice (some ⟨g, 0, none⟩) (ini ++ [e]).length cap).ownBlock ≠ some k) ∧ (set4at w g (ini.length * 4) c0 c1 c2 c3).heap[k]? = w.heap[k]? := fun k hk => ⟨⟨hk.1, by rw [hw]; exact hk.2.1, fun e2 => hk.2.2 (by simpa [Value.ownBlock] using e2.symm)⟩, hsp.block k hk.2.1 (fun e2 => hk.2.2 e2)⟩
    by_cases hj : j < ini.length
    · rw [List.getElem?_append_left hj] at hx
      rw [List.getElem?_append_left (by rw [hcl]; exact hj)] at hc
      have h2 := h.reads j x c (by rw [List.getElem?_append_left hj]; exact hx) (by rw [List.getElem?_append_left (by rw [hcl]; exact hj)]; exact hc)
      exact hr _ _ _ _ _ _ h2 (fun k hk => key k ⟨hk.1, hk.2.1, fun e2 => hk.2.2 (by rw [e2]; rfl)⟩)
    · have hj2 : j = ini.length := by
        have := (List.getElem?_eq_some_iff.1 hx).1
        simp at this; omega
      subst hj2
      rw [List.getElem?_append_right (Nat.le_refl _), Nat.sub_self] at hx
      rw [← hcl, List.getElem?_append_right (Nat.le_refl _), Nat.sub_self] at hc
      simp at hx hc
      subst hx hc
      exact hr _ _ _ _ _ _ hnew key
/-- The last element's cells. -/
theorem OwnR.last_cells {E : Type} {rel : (Nat → Prop) → World → E → List Value → Prop} (hr : Keeps rel) {t : TypeId} {B : Nat} {S : Nat → Prop} {w : World} {v : Value} {css : List (List Value)} {ini : List E} {q : E} (h : OwnR rel t 4 S w B v css (ini ++ [q])) :
    ∃ g cap d0 d1 d2 d3, v = .slice (some ⟨g, 0, none⟩) (ini ++ [q]).length cap ∧ B ≤ g ∧ g < w.heap.size ∧ (ini ++ [q]).length ≤ cap ∧ cap ≤ maxLen ∧ rel (fun k => S k ∧ k < w.heap.size ∧ k ≠ g) w q [d0, d1, d2, d3] ∧
      w.cell? ⟨g, ini.length * 4, none⟩ = some d0 ∧ w.cell? ⟨g, ini.length * 4 + 1, none⟩ = some d1 ∧ w.cell? ⟨g, ini.length * 4 + 2, none⟩ = some d2 ∧ w.cell? ⟨g, ini.length * 4 + 3, none⟩ = some d3 ∧ ∀ j, w.frozen? ⟨g, j, none⟩ = false := by
  obtain ⟨cini, d, rfl, hcl, hd, hfl⟩ := ownR_split h
  match d, hd with
  | [d0, d1, d2, d3], _ =>
    have hq := h.reads ini.length q [d0, d1, d2, d3] (by simp) (by rw [← hcl]; simp)
    rcases h.own.2 with ⟨_, e⟩ | ⟨g, cap, cur, rfl, hB, hg, hnc, hcm, _⟩
    · simp at e
    · have hlt := (World.ownsRow.lt h.own g rfl).2
      have at_ : ∀ j x, [d0, d1, d2, d3][j]? = some x → w.cell? ⟨g, ini.length * 4 + j, none⟩ = some x := fun j x hx => by
        have hj : j < 4 := (List.getElem?_eq_some_iff.1 hx).1
        have := World.ownsRow.cells h.own rfl (ini.length * 4 + j) x (by
          simp only [List.flatten_append, List.flatten_cons, List.flatten_nil, List.append_nil]
          rw [List.getElem?_append_right (by omega), hfl, Nat.add_sub_cancel_left]; exact hx)
        rwa [add_pos, Nat.zero_add] at this
      exact ⟨g, cap, d0, d1, d2, d3, rfl, hB, hlt, hnc, hcm, hr _ _ _ _ _ _ hq (fun k hk => ⟨⟨hk.1, hk.2.1, fun e2 => hk.2.2 (by rw [e2]; rfl)⟩, rfl⟩), at_ 0 _ rfl, at_ 1 _ rfl, at_ 2 _ rfl, at_ 3 _ rfl, fun j => h.own.frozenAt _⟩
end Go.Proofs.Ytfiogjdjcocbnaa
