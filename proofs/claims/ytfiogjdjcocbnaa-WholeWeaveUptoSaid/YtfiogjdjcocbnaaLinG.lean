/- The table of two lists of numbers: the walk of its cell; what it holds. -/
import Derived.Test.YtfiogjdjcocbnaaLinF
import Derived.Test.YtfiogjdjcocbnaaLinA
import Derived.Test.YtfiogjdjcocbnaaDraw
import Derived.IntWalk
namespace Go.Proofs.Ytfiogjdjcocbnaa
open Go.RowKit

set_option maxHeartbeats 1000000 in
theorem cell_any (tb cb n : Nat) (wide i j : Int) (k : Nat) (w : World) (c0 : w.cell? ⟨tb, 0, none⟩ = some (.int .i64 wide)) (c1 : w.cell? ⟨tb, 1, none⟩ = some (.slice (some ⟨cb, 0, none⟩) n n))
    (hw : 0 ≤ wide) (hi : 0 ≤ i) (hj : 0 ≤ j) (hk : i * wide + j = k) (hn : k < n) (hb : n ≤ 8388608) :
    Calls Try.prog 59 #[.pointer (some ⟨tb, 0, none⟩), .int .i64 i, .int .i64 j] w fun e w' => e = .returned (.pointer (some ⟨cb, k, none⟩)) ∧ ∃ m, w' = w.drewN m := by
  have hp0 : 0 ≤ i * wide := Int.mul_nonneg hi hw
  obtain ⟨p, hp⟩ : ∃ p, i * wide = p := ⟨_, rfl⟩
  rw [hp] at hk hp0
  have h1 : IntKind.i64.wrap (i * wide) = p := by rw [hp]; exact IntWalk.i64_in _ (by omega)
  have h2 : IntKind.i64.wrap (p + j) = (k : Int) := by rw [hk]; exact IntWalk.i64_in _ (by omega)
  have h3 : (0 : Int) ≤ (k : Int) := by omega
  have h4 : (k : Int) < (n : Int) := by omega
  clear hp hk hp0 hi hj
  go_enter Try.func59, Try.ntmps59
  go_wp2_with fail
  go_quiet (fail)
  go_wp2_with fail
  go_ret
  exact ⟨rfl, nq, rfl⟩
/-- A table in memory: its cells are these numbers. -/
structure Tab (w : World) (tb cb : Nat) (wide : Int) (n : Nat) (f : Nat → Nat) : Prop where
  c0 : w.cell? ⟨tb, 0, none⟩ = some (.int .i64 wide)
  c1 : w.cell? ⟨tb, 1, none⟩ = some (.slice (some ⟨cb, 0, none⟩) n n)
  ne : tb ≠ cb
  lt : tb < w.heap.size ∧ cb < w.heap.size
  cs : ∀ k, k < n → w.cell? ⟨cb, k, none⟩ = some (.int .i64 (f k : Nat))
  fr : ∀ k, w.frozen? ⟨cb, k, none⟩ = false
theorem Tab.kept {w w' : World} {tb cb n : Nat} {wide : Int} {f : Nat → Nat} (h : Tab w tb cb wide n f) (h1 : w'.heap[tb]? = w.heap[tb]?) (h2 : w'.heap[cb]? = w.heap[cb]?) (hs : w.heap.size ≤ w'.heap.size) : Tab w' tb cb wide n f :=
  ⟨(World.cell?_of_block (w := w) h1).trans h.c0, (World.cell?_of_block (w := w) h1).trans h.c1, h.ne, ⟨by have := h.lt.1; omega, by have := h.lt.2; omega⟩, fun k hk => (World.cell?_of_block (w := w) h2).trans (h.cs k hk), fun k => (World.frozen?_of_block (w := w) h2).trans (h.fr k)⟩
theorem Tab.drewN {w : World} {tb cb n : Nat} {wide : Int} {f : Nat → Nat} (h : Tab w tb cb wide n f) (m : Nat) : Tab (w.drewN m) tb cb wide n f := h.kept rfl rfl (Nat.le_refl _)
theorem Tab.set {w : World} {tb cb n : Nat} {wide : Int} {f : Nat → Nat} (h : Tab w tb cb wide n f) {k : Nat} (hk : k < n) (x : Nat) {xi : Int} (hx : xi = (x : Int)) : Tab (w.setCell ⟨cb, k, none⟩ (.int .i64 xi)) tb cb wide n (fun m => if m = k then x else f m) := by
  subst hx
  have ht : (w.setCell ⟨cb, k, none⟩ (.int .i64 (x : Int))).heap[tb]? = w.heap[tb]? := Below.heap_setCell _ _ _ _ (fun e => h.ne e)
  refine ⟨(World.cell?_of_block (w := w) ht).trans h.c0, (World.cell?_of_block (w := w) ht).trans h.c1, h.ne, by simpa using h.lt, fun m hm => ?_, fun m => by rw [World.frozen?_setCell]; exact h.fr m⟩
  by_cases e : m = k
  · subst e; rw [if_pos rfl]; exact World.cell?_setCell_same _ _ _ (h.cs _ hm)
  · rw [if_neg e, World.cell?_setCell_other _ _ _ _ (by intro c; injection c with _ c _; exact e c.symm)]; exact h.cs m hm
theorem Tab.made {w w1 : World} {n B : Nat} {wide : Int} (hown : w1.ownsRow B 3 1 (.slice (some ⟨w.heap.size, 0, none⟩) n n) n (madeCells (Value.int .i64 0).cells (n * 1)).toList) (hlt : w.heap.size < w1.heap.size) :
    Tab (w1.alloc (.cells #[.int .i64 wide, .slice (some ⟨w.heap.size, 0, none⟩) n n] 117)) w1.heap.size w.heap.size wide n (fun _ => 0) := by
  refine ⟨by rw [World.cell?_alloc_mark]; rfl, by rw [World.cell?_alloc_mark]; rfl, by omega, ⟨by simp, by simp; omega⟩, fun k hk => ?_, fun k => ?_⟩
  · rw [World.cell?_of_block (w := w1) (Below.heap_alloc _ _ _ hlt), hown.cellAt k (by omega)]
    show (madeCells #[Value.int .i64 0] (n * 1)).toList[k]? = _
    rw [toList_madeCells_one, List.getElem?_replicate, if_pos (by omega)]; rfl
  · rw [World.frozen?_of_block (w := w1) (Below.heap_alloc _ _ _ hlt), hown.frozenAt k]
/-- How far a table is right: from place (i, j) on, line by line. -/
def TabTo (a b : List Nat) (f : Nat → Nat) (i j : Int) : Prop := ∀ p q : Nat, p ≤ a.length → q ≤ b.length → (i < p ∨ (i = p ∧ j < q) ∨ q = b.length ∨ p = a.length) → f (p * (b.length + 1) + q) = lcs (a.drop p) (b.drop q)
theorem place_inj {m p q p' q' : Nat} (hq : q < m) (hq' : q' < m) (h : p * m + q = p' * m + q') : p = p' ∧ q = q' := by
  have h1 : (q + m * p) / m = p := by rw [Nat.add_mul_div_left _ _ (by omega), Nat.div_eq_of_lt hq, Nat.zero_add]
  have h2 : (q' + m * p') / m = p' := by rw [Nat.add_mul_div_left _ _ (by omega), Nat.div_eq_of_lt hq', Nat.zero_add]
  have e : q + m * p = q' + m * p' := by rw [Nat.mul_comm m p, Nat.mul_comm m p']; omega
  rw [e] at h1
  have hp : p = p' := h1.symm.trans h2
  subst hp
  exact ⟨rfl, by omega⟩
theorem place_lt {la lb p q : Nat} (hp : p ≤ la) (hq : q ≤ lb) : p * (lb + 1) + q < (la + 1) * (lb + 1) := by
  have := Nat.mul_le_mul_right (lb + 1) hp
  rw [Nat.add_mul]; omega
theorem TabTo.step {a b : List Nat} {f : Nat → Nat} {i j : Nat} (h : TabTo a b f i j) (hi : i < a.length) (hj : j < b.length) : TabTo a b (fun m => if m = i * (b.length + 1) + j then lcs (a.drop i) (b.drop j) else f m) i ((j : Int) - 1) := by
  intro p q hp hq hc
  by_cases e : p * (b.length + 1) + q = i * (b.length + 1) + j
  · obtain ⟨rfl, rfl⟩ := place_inj (by omega) (by omega) e
    simp
  · simp only [if_neg e]
    apply h p q hp hq
    rcases hc with h | ⟨h1, h2⟩ | h | h
    · exact Or.inl h
    · have : p = i := by omega
      subst this
      have : q ≠ j := fun k => e (by rw [k])
      exact Or.inr (Or.inl ⟨rfl, by omega⟩)
    · exact Or.inr (Or.inr (Or.inl h))
    · exact Or.inr (Or.inr (Or.inr h))
theorem TabTo.down {a b : List Nat} {f : Nat → Nat} {i : Nat} (h : TabTo a b f i (-1)) : TabTo a b f ((i : Int) - 1) ((b.length : Int) - 1) := by
  intro p q hp hq hc
  apply h p q hp hq
  rcases hc with h | ⟨h1, h2⟩ | h | h
  · by_cases e : (i : Int) = p
    · exact Or.inr (Or.inl ⟨e, by omega⟩)
    · exact Or.inl (by omega)
  · exact Or.inr (Or.inr (Or.inl (by omega)))
  · exact Or.inr (Or.inr (Or.inl h))
  · exact Or.inr (Or.inr (Or.inr h))
theorem TabTo.start {a b : List Nat} {f : Nat → Nat} (h : ∀ k, f k = 0) : TabTo a b f ((a.length : Int) - 1) ((b.length : Int) - 1) := by
  intro p q hp hq hc
  rw [h]
  rcases hc with h | ⟨h1, h2⟩ | h | h
  · rw [List.drop_eq_nil_of_le (show a.length ≤ p by omega)]; rfl
  · rw [List.drop_eq_nil_of_le (show b.length ≤ q by omega), lcs_none]
  · rw [h, List.drop_length, lcs_none]
  · rw [h, List.drop_length]; rfl
theorem lcs_at {a b : List Nat} {i j : Nat} (hi : i < a.length) (hj : j < b.length) : lcs (a.drop i) (b.drop j) = if a.getD i 0 = b.getD j 0 then lcs (a.drop (i + 1)) (b.drop (j + 1)) + 1 else max (lcs (a.drop (i + 1)) (b.drop j)) (lcs (a.drop i) (b.drop (j + 1))) := by
  rw [List.drop_eq_getElem_cons hi, List.drop_eq_getElem_cons hj, lcs_best, getD_at hi, getD_at hj]
theorem lcs_drop_le (a b : List Nat) (i j : Nat) : lcs (a.drop i) (b.drop j) ≤ a.length := by
  have := (lcs_len (a.drop i) (b.drop j)).1
  simp at this; omega
end Go.Proofs.Ytfiogjdjcocbnaa
