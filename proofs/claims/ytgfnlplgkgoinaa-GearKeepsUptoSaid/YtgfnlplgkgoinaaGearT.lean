/- A chunk of a list of one's own is appended to; the walk of the law GearKeeps, where the measures are wrong. -/
import Derived.Test.YtgfnlplgkgoinaaGearS
namespace Go.Proofs.Ytgfnlplgkgoinaa
open Go.RowKit

theorem row_kept {w w' : World} {B E size n : Nat} {v : Value} {xs : List Value} (h : w.ownsRow B E size v n xs) (hk : ∀ k, v.ownBlock = some k → w'.heap[k]? = w.heap[k]?) : w'.ownsRow B E size v n xs := by
  refine ⟨h.1, ?_⟩
  rcases h.2 with h2 | ⟨g, cap, cur, e1, e2, e3, e4⟩
  · exact Or.inl h2
  · exact Or.inr ⟨g, cap, cur, e1, e2, (hk g (by rw [e1]; rfl)).trans e3, e4⟩
theorem Chs.at {w : World} {B : Nat} {v : Value} {vs : List Value} {ls : List (List UInt8)} (h : Chs w B v vs ls) {j : Nat} {x : Value} (hj : vs[j]? = some x) : ∃ k, x.ownBlock = some k ∧ B ≤ k ∧ k < w.heap.size := by
  have hj2 : j < ls.length := by rw [← h.len]; exact (List.getElem?_eq_some_iff.1 hj).1
  obtain ⟨h1, h2⟩ := h.own j x _ hj (List.getElem?_eq_getElem hj2)
  obtain ⟨k, _, _, e1, e2, e3⟩ := own_some h1 h2
  exact ⟨k, e1, e2, e3⟩
theorem Chs.upd {w w1 w2 : World} {B j : Nat} {v x x' : Value} {vs : List Value} {ls : List (List UInt8)} {l' : List UInt8} (h : Chs w B v vs ls) (hj : vs[j]? = some x) (hg : Grew w w1 x x') (hx' : Own w1 B x' l') (hl' : l' ≠ [])
    (hr2 : w2.ownsRow B 22 1 v vs.length (vs.set j x')) (hg2 : w1.grownBy w2 v.ownBlock) : Chs w2 B v (vs.set j x') (ls.set j l') := by
  have hjl := (List.getElem?_eq_some_iff.1 hj).1
  obtain ⟨kx, hxb, hx1, hx2⟩ := h.at hj
  have hvb : ∀ k, v.ownBlock = some k → k < w.heap.size := fun k hk => (World.ownsRow.lt h.row k hk).2
  obtain ⟨g', _, _, hx'b, _, hg'2⟩ := own_some hx' hl'
  have hx'or : g' = kx ∨ w.heap.size ≤ g' := by
    rcases hg.own g' hx'b with e | e
    · rw [hxb] at e; injection e with e; exact Or.inl e.symm
    · exact Or.inr e
  have hvx : v.ownBlock ≠ some kx := fun e => h.out j x hj (hxb.trans e.symm)
  have hvx' : v.ownBlock ≠ some g' := fun e => by
    rcases hx'or with e2 | e2
    · rw [e2] at e; exact hvx e
    · have := hvb g' e; omega
  have hoth : ∀ (i : Nat) vi, i ≠ j → vs[i]? = some vi → ∃ k, vi.ownBlock = some k ∧ k < w.heap.size ∧ k ≠ kx ∧ w2.heap[k]? = w.heap[k]? := by
    intro i vi hij hi
    obtain ⟨k, e1, e2, e3⟩ := h.at hi
    have hk : k ≠ kx := fun e => hij (h.dis i j vi x hi hj (by rw [e1, hxb, e]))
    refine ⟨k, e1, e3, hk, ?_⟩
    rw [hg2.block k (Nat.lt_of_lt_of_le e3 hg.size) (fun e => h.out i vi hi (e1.trans e)), hg.gb.block k e3 (fun e => hk (by rw [hxb] at e; injection e))]
  refine ⟨by rw [List.length_set]; exact hr2, by rw [List.length_set, List.length_set, h.len], ?_, ?_, ?_⟩
  · intro i vi li hi hli
    by_cases hij : i = j
    · subst hij
      rw [List.getElem?_set_self hjl] at hi
      rw [List.getElem?_set_self (by rw [← h.len]; exact hjl)] at hli
      injection hi with hi; injection hli with hli
      subst hi hli
      refine ⟨Own.kept hx' (fun k hk => ?_), hl'⟩
      rw [hx'b] at hk; injection hk with hk
      rw [← hk]
      exact hg2.block g' hg'2 (fun e => hvx' e.symm)
    · rw [List.getElem?_set_ne (by omega)] at hi hli
      obtain ⟨h1, h2⟩ := h.own i vi li hi hli
      refine ⟨Own.kept h1 (fun k hk => ?_), h2⟩
      obtain ⟨k', e1, _, _, e4⟩ := hoth i vi hij hi
      rw [e1] at hk; injection hk with hk
      rw [← hk]; exact e4
  · intro i vi hi he
    by_cases hij : i = j
    · subst hij
      rw [List.getElem?_set_self hjl] at hi
      injection hi with hi; subst hi
      exact hvx' (he.symm.trans hx'b)
    · rw [List.getElem?_set_ne (by omega)] at hi
      exact h.out i vi hi he
  · intro i i2 vi vi2 hi hi2 he
    by_cases hij : i = j <;> by_cases hij2 : i2 = j
    · omega
    · rw [hij, List.getElem?_set_self hjl] at hi
      rw [List.getElem?_set_ne (by omega)] at hi2
      injection hi with hi; subst hi
      obtain ⟨k, e1, e2, e3, _⟩ := hoth i2 vi2 hij2 hi2
      rw [hx'b, e1] at he; injection he with he
      rcases hx'or with e4 | e4 <;> omega
    · rw [hij2, List.getElem?_set_self hjl] at hi2
      rw [List.getElem?_set_ne (by omega)] at hi
      injection hi2 with hi2; subst hi2
      obtain ⟨k, e1, e2, e3, _⟩ := hoth i vi hij hi
      rw [hx'b, e1] at he; injection he with he
      rcases hx'or with e4 | e4 <;> omega
    · rw [List.getElem?_set_ne (by omega)] at hi hi2
      exact h.dis i i2 vi vi2 hi hi2 he
/-- The chunks, the first k of them with one byte more. -/
def more (ls : List (List UInt8)) (k : Nat) : List (List UInt8) := (ls.take k).map (· ++ [99]) ++ ls.drop k
theorem more_zero (ls : List (List UInt8)) : more ls 0 = ls := rfl
theorem more_len (ls : List (List UInt8)) (k : Nat) (h : k ≤ ls.length) : (more ls k).length = ls.length := by unfold more; simp; omega
theorem more_at (ls : List (List UInt8)) (k : Nat) (h : k < ls.length) : (more ls k)[k]? = some ls[k] := by
  unfold more
  rw [List.getElem?_append_right (by simp; omega)]
  simp [Nat.min_eq_left (Nat.le_of_lt h), h]
theorem more_succ (ls : List (List UInt8)) (k : Nat) (h : k < ls.length) : (more ls k).set k (ls[k] ++ [99]) = more ls (k + 1) := by
  apply List.ext_getElem?
  intro i
  rw [List.getElem?_set]
  by_cases hi : k = i
  · subst hi
    rw [if_pos rfl, more_len ls k (by omega), if_pos h]
    unfold more
    rw [List.getElem?_append_left (by simp; omega)]
    simp [h]
  · rw [if_neg hi]
    unfold more
    by_cases h2 : i < k
    · rw [List.getElem?_append_left (by simp; omega), List.getElem?_append_left (by simp; omega)]
      simp only [List.getElem?_map, List.getElem?_take]
      rw [if_pos h2, if_pos (by omega)]
    · rw [List.getElem?_append_right (by simp; omega), List.getElem?_append_right (by simp; omega)]
      simp only [List.length_map, List.length_take, List.getElem?_drop, Nat.min_eq_left (Nat.le_of_lt h), Nat.min_eq_left (Nat.succ_le_of_lt h)]
      congr 1; omega
theorem more_all (ls : List (List UInt8)) (j : Nat) (h : j < ls.length) : (more ls ls.length)[j]? = some (ls[j] ++ [99]) := by
  unfold more
  rw [List.getElem?_append_left (by simp; omega)]
  simp [h]
end Go.Proofs.Ytgfnlplgkgoinaa
