/- Scan's records so far. -/
import Derived.Test.YtgknihcpmpfocaaDoorPkE
import Derived.Deep.RegionLaw
namespace Go.Proofs.YtgknihcpmpfocaaDoor
open Go.RowKit
attribute [local simp high] id_size id_zero

theorem sub_run {S : Nat → Prop} {w : World} {aa : Addr} {ca : Nat} {b : List UInt8} (h : BytesC S w (.slice (some aa) b.length ca) b) (i j : Nat) (hij : i ≤ j) (hj : j ≤ b.length) :
    ∃ (a' : Addr) (c' : Nat), (∀ W, (Instr.sliceAt 22 (.slice (some aa) b.length ca) (some (.int .i64 (i : Int))) (some (.int .i64 (j : Int))) none).run Tryd.prog W = .ok (.slice (some a') (j - i) c') W) ∧ BytesC S w (.slice (some a') (j - i) c') ((b.drop i).take (j - i)) := by
  have hca : b.length ≤ ca ∧ ca ≤ maxLen := by
    rcases h with ⟨e, _⟩ | ⟨a, c, e, e2, e3, _⟩
    · cases e
    · injection e with _ _ e; subst e; exact ⟨e2, e3⟩
  have hrun : ∀ W, (Instr.sliceAt 22 (.slice (some aa) b.length ca) (some (.int .i64 (i : Int))) (some (.int .i64 (j : Int))) none).run Tryd.prog W = .ok (.slice (if ca = i then some aa else some (aa.add i)) (j - i) (ca - i)) W := by
    intro W
    rw [run_sliceAt_slice W _ _ _ _ _ und_bytes, run_slice_lh W _ _ _ _ und_bytes _ _ _ _ (by omega) (by omega) (by omega), elem_bytes, Tryd.sizeOf5]
    simp [sliced, Result.andThen]
  by_cases hc : ca = i
  · rw [if_pos hc] at hrun
    have e0 : j - i = 0 := by omega
    refine ⟨aa, ca - i, hrun, ?_⟩
    rw [e0, List.take_zero]
    exact Or.inr ⟨aa, ca - i, rfl, Nat.zero_le _, by omega, Or.inl rfl, fun j u hj => by simp [bv] at hj⟩
  · rw [if_neg hc] at hrun
    refine ⟨aa.add i, ca - i, hrun, ?_⟩
    have h2 := h.drop i (by omega) (by omega)
    rw [show b.length - i = (b.drop i).length by rw [List.length_drop]] at h2
    exact cut_c h2 (j - i) (by rw [List.length_drop]; omega)
/-- Scan's records so far: the row in a cell of its own, each record in blocks of R. -/
structure ScAt (B bc bb : Nat) (v vr : Value) (vs : List Value) (R : Nat → Prop) (done : List (List UInt8)) (T : Nat → Prop) (W : World) : Prop where
  cell : W.heap[bc]? = some (.cells #[vr] 24 (0, 0))
  arg : W.heap[bb]? = some (.cells #[v] 22 (0, 0))
  row : W.ownsRow B 22 1 vr done.length vs
  recs : ∀ (j : Nat) (l : List UInt8), done[j]? = some l → ∃ vj, vs[j]? = some vj ∧ BytesC R W vj l
  tc : T bc
  tb : T bb
  tr : ∀ k, R k → T k ∧ k ≠ bc ∧ k ≠ bb ∧ vr.ownBlock ≠ some k
  tow : ∀ k, vr.ownBlock = some k → T k ∧ k ≠ bc ∧ k ≠ bb
def ScJ (B bc bb : Nat) (v : Value) (done : List (List UInt8)) (T : Nat → Prop) (W : World) : Prop := ∃ vr vs R, ScAt B bc bb v vr vs R done T W ∧ ∀ k, T k → k < W.heap.size
theorem ScAt.kept {B bc bb : Nat} {v vr : Value} {vs : List Value} {R : Nat → Prop} {done : List (List UInt8)} {T : Nat → Prop} {W W' : World} (h : ScAt B bc bb v vr vs R done T W) (hk : ∀ k, T k → W'.heap[k]? = W.heap[k]?) : ScAt B bc bb v vr vs R done T W' where
  cell := (hk bc h.tc).trans h.cell
  arg := (hk bb h.tb).trans h.arg
  row := by
    refine ⟨h.row.1, ?_⟩
    rcases h.row.2 with h2 | ⟨g, cap, cur, e1, e2, e3, e4⟩
    · exact Or.inl h2
    · exact Or.inr ⟨g, cap, cur, e1, e2, (hk g (h.tow g (by rw [e1]; rfl)).1).trans e3, e4⟩
  recs := fun j l hj => by
    obtain ⟨vj, h1, h2⟩ := h.recs j l hj
    exact ⟨vj, h1, h2.kept (fun k hr => ⟨hr, hk k (h.tr k hr).1⟩)⟩
  tc := h.tc
  tb := h.tb
  tr := h.tr
  tow := h.tow
theorem ScJ.kept {B bc bb : Nat} {v : Value} (done : List (List UInt8)) (T : Nat → Prop) (W W' : World) (h : ScJ B bc bb v done T W) (hk : ∀ k, T k → W'.heap[k]? = W.heap[k]?) (hs : W.heap.size ≤ W'.heap.size) : ScJ B bc bb v done T W' := by
  obtain ⟨vr, vs, R, h1, h2⟩ := h
  exact ⟨vr, vs, R, h1.kept hk, fun k hk => Nat.lt_of_lt_of_le (h2 k hk) hs⟩
theorem Tryd.info22 : (Tryd.prog.info? 22).map (fun i => (i.zero, i.size, i.bytes)) = some (some (.slice none 0 0), 1, 24) := by kernel_rfl
theorem srcV_one (w : World) (x : Value) (hx : x.oneCell' = true) : Src Tryd.prog 1 24 (.slice (some ⟨w.heap.size, 0, none⟩) 1 1) 1 [x] (w.alloc (.cells #[x] 22)) := by
  refine Src.ofSlice _ Tryd.underlying24 _ _ 1 _ rfl (fun j u hj => ?_) (fun u hu => by rw [List.mem_singleton] at hu; rw [hu]; exact hx)
  cases j with
  | succ j => simp at hj
  | zero =>
    simp at hj
    subst hj
    exact cell_of_row _ _ _ _ _ _ (new_five w #[x] 22)
theorem framesL_ge (l : List (List UInt8)) : l.length ≤ (framesL l).length := by
  induction l with
  | nil => exact Nat.zero_le _
  | cons s r ih => rw [framesL_cons, List.length_append, frameL_len, List.length_cons]; omega
theorem sc_push {B bc bb : Nat} {v vr v4 v5 : Value} {vs : List Value} {R : Nat → Prop} {done : List (List UInt8)} {rec : List UInt8} {T : Nat → Prop} {W w2 w4 w5 : World} {o : Obj}
    (hA : ScAt B bc bb v vr vs R done T W) (hTl : ∀ k, T k → k < W.heap.size) (hal : ∀ q, q < W.heap.size → w2.heap[q]? = W.heap[q]?) (hsz : w2.heap.size = W.heap.size + 2) (hB2 : Below W.heap.size W w2)
    (hown : Own w4 w2.heap.size v4 rec) (hb4 : Below w2.heap.size w2 w4) (hown5 : w5.ownsRow B 22 1 v5 (done.length + 1) (vs ++ [v4])) (hg5 : Grew (w4.alloc o) w5 vr v5) :
    ∃ T', (∀ k, T' k → (T k ∨ W.heap.size ≤ k) ∧ k < (w5.setCell ⟨bc, 0, none⟩ v5).heap.size) ∧ ScJ B bc bb v (done ++ [rec]) T' (w5.setCell ⟨bc, 0, none⟩ v5) ∧ Far T W (w5.setCell ⟨bc, 0, none⟩ v5) := by
  have hz4 := hb4.size
  have hza : (w4.alloc o).heap.size = w4.heap.size + 1 := by simp
  have hz5 : w4.heap.size + 1 ≤ w5.heap.size := by have := hg5.gb.size; omega
  have hzs : (w5.setCell ⟨bc, 0, none⟩ v5).heap.size = w5.heap.size := by simp
  have hbcl := hTl bc hA.tc
  have hbbl := hTl bb hA.tb
  have hold : ∀ q, q < W.heap.size → vr.ownBlock ≠ some q → w5.heap[q]? = W.heap[q]? := fun q hq hn =>
    (hg5.gb.block q (by omega) (fun e => hn e.symm)).trans ((Below.heap_alloc w4 o q (by omega)).trans ((hb4.block q (by omega)).trans (hal q hq)))
  have hnbc : vr.ownBlock ≠ some bc := fun e => (hA.tow bc e).2.1 rfl
  have hnbb : vr.ownBlock ≠ some bb := fun e => (hA.tow bb e).2.2 rfl
  have hne : bc ≠ bb := by
    intro e
    have h1 := hA.cell
    have h2 := hA.arg
    rw [e, h2] at h1
    injection h1 with h1
    injection h1 with _ h1
    exact absurd h1 (by decide)
  have hset : ∀ q, q ≠ bc → (w5.setCell ⟨bc, 0, none⟩ v5).heap[q]? = w5.heap[q]? := fun q hq => heap_setCell_other _ _ _ _ (by simpa using hq)
  have hof : ∀ q, v5.ownBlock = some q → vr.ownBlock = some q ∨ w4.heap.size < q := fun q hq => by
    rcases hg5.own q hq with h | h
    · exact Or.inl h
    · exact Or.inr (by omega)
  have hofl : ∀ q, v5.ownBlock = some q → q < w5.heap.size := fun q hq => (World.ownsRow.lt hown5 q hq).2
  have hobc : ∀ q, v5.ownBlock = some q → q ≠ bc ∧ q ≠ bb := fun q hq => by
    rcases hof q hq with h | h
    · exact ⟨(hA.tow q h).2.1, (hA.tow q h).2.2⟩
    · exact ⟨by omega, by omega⟩
  refine ⟨fun k => T k ∨ (W.heap.size ≤ k ∧ k < w5.heap.size), fun k hk => ?_, ⟨v5, vs ++ [v4], fun k => R k ∨ (w2.heap.size ≤ k ∧ k < w4.heap.size), ?_, fun k hk => ?_⟩, ?_⟩
  · rw [hzs]
    rcases hk with h | h
    · exact ⟨Or.inl h, by have := hTl k h; omega⟩
    · exact ⟨Or.inr h.1, h.2⟩
  · have hc5 : w5.heap[bc]? = some (.cells #[vr] 24 (0, 0)) := (hold bc hbcl hnbc).trans hA.cell
    refine ⟨?_, ?_, ?_, ?_, Or.inl hA.tc, Or.inl hA.tb, ?_, ?_⟩
    · rw [heap_setCell_same w5 bc 0 _ _ _ hc5]; rfl
    · exact (hset bb (fun e => hne e.symm)).trans ((hold bb hbbl hnbb).trans hA.arg)
    · rw [List.length_append]
      refine ⟨hown5.1, ?_⟩
      rcases hown5.2 with h2 | ⟨g, cap, cur, x1, x2, x3, x4⟩
      · exact Or.inl h2
      · exact Or.inr ⟨g, cap, cur, x1, x2, (hset g (hobc g (by rw [x1]; rfl)).1).trans x3, x4⟩
    · intro j l hj
      have hvl : vs.length = done.length := by have := hA.row.1; omega
      by_cases hlt : j < done.length
      · rw [List.getElem?_append_left hlt] at hj
        obtain ⟨vj, h1, h2⟩ := hA.recs j l hj
        refine ⟨vj, by rw [List.getElem?_append_left (by omega)]; exact h1, h2.kept (fun k hr => ⟨Or.inl hr, ?_⟩)⟩
        have ht := hA.tr k hr
        exact (hset k ht.2.1).trans (hold k (hTl k ht.1) ht.2.2.2)
      · rw [List.getElem?_append_right (by omega)] at hj
        have hj0 : j - done.length = 0 := by
          cases hq : j - done.length with
          | zero => rfl
          | succ q => rw [hq] at hj; simp at hj
        rw [hj0] at hj
        simp at hj
        subst hj
        refine ⟨v4, by rw [List.getElem?_append_right (by omega), hvl, hj0]; rfl, (own_c hown).kept (fun k hr => ⟨Or.inr hr, ?_⟩)⟩
        refine (hset k (by omega)).trans ((hg5.gb.block k (by omega) (fun e => ?_)).trans (Below.heap_alloc w4 o k hr.2))
        have := hTl k (hA.tow k e.symm).1
        omega
    · intro k hk
      rcases hk with h | h
      · have ht := hA.tr k h
        refine ⟨Or.inl ht.1, ht.2.1, ht.2.2.1, fun e => ?_⟩
        rcases hof k e with h2 | h2
        · exact ht.2.2.2 h2
        · have := hTl k ht.1; omega
      · refine ⟨Or.inr ⟨by omega, by omega⟩, by omega, by omega, fun e => ?_⟩
        rcases hof k e with h2 | h2
        · have := hTl k (hA.tow k h2).1; omega
        · omega
    · intro k hk
      refine ⟨?_, hobc k hk⟩
      rcases hof k hk with h2 | h2
      · exact Or.inl (hA.tow k h2).1
      · exact Or.inr ⟨by omega, hofl k hk⟩
  · rw [hzs]
    rcases hk with h | h
    · have := hTl k h; omega
    · exact h.2
  · refine ⟨?_, ?_, ?_, by rw [hzs]; omega, fun q hq hn => ?_⟩
    · exact hg5.gb.os.trans (hb4.os.trans hB2.os)
    · exact hg5.gb.tape.trans (hb4.tape.trans hB2.tape)
    · exact hg5.gb.output.trans (hb4.output.trans hB2.output)
    · exact (hset q (fun e => hn (by rw [e]; exact hA.tc))).trans (hold q hq (fun e => hn (hA.tow q e).1))
theorem row_shape_any {w : World} {B : Nat} {e : TypeId} {size : Nat} {v : Value} {n : Nat} {xs : List Value} (h : w.ownsRow B e size v n xs) : ∃ a c, v = .slice a n c := by
  rcases h.2 with ⟨h1, h2⟩ | ⟨g, cap, cur, h1, _⟩
  · exact ⟨none, 0, by rw [h1, h2]⟩
  · exact ⟨_, _, h1⟩
end Go.Proofs.YtgknihcpmpfocaaDoor
