/- The walk through all that some nodes come from, for any closure that it hands them to. -/
import Derived.Test.YtfphkbbgbfnhaaaDagD
import Derived.Test.YtfphkbbgbfnhaaaRound
import Derived.Deep.Cut
import Derived.Deep.DrawnRows
import Derived.Deep.QuietTactic
import Derived.BigQuiet
import Derived.StillTailTactics
import Derived.Deep.RegionHeld3
import Derived.BigRegion
import Derived.IntWalk
import Derived.Laws.CopyOwn
namespace Go.Proofs.Ytfphkbbgbfnhaaa
open Go.RowKit Go.Shelf Go.Maps
attribute [local go_sem] Oper.semAt_some

/-- A row of marks. -/
structure Bits (w : World) (cb n : Nat) (f : Nat → Bool) : Prop where
  lt : cb < w.heap.size
  cs : ∀ k, k < n → w.cell? ⟨cb, k, none⟩ = some (.bool (f k))
  fr : ∀ k, w.frozen? ⟨cb, k, none⟩ = false
theorem Bits.kept {w w' : World} {cb n : Nat} {f : Nat → Bool} (h : Bits w cb n f) (hk : w'.heap[cb]? = w.heap[cb]?) (hs : w.heap.size ≤ w'.heap.size) : Bits w' cb n f :=
  ⟨Nat.lt_of_lt_of_le h.lt hs, fun k hn => (World.cell?_of_block (w := w) hk).trans (h.cs k hn), fun k => (World.frozen?_of_block (w := w) hk).trans (h.fr k)⟩
theorem Bits.set {w : World} {cb n : Nat} {f f' : Nat → Bool} (h : Bits w cb n f) {k : Nat} (hk : k < n) (hf : ∀ p, p < n → f' p = (if p = k then true else f p)) : Bits (w.setCell ⟨cb, k, none⟩ (.bool true)) cb n f' := by
  refine ⟨by simpa using h.lt, fun p hp => ?_, fun p => by rw [World.frozen?_setCell]; exact h.fr p⟩
  rw [hf p hp]
  by_cases e : p = k
  · subst e; rw [if_pos rfl]; exact World.cell?_setCell_same _ _ _ (h.cs _ hp)
  · rw [if_neg e, World.cell?_setCell_other _ _ _ _ (by intro c; injection c with _ c _; exact e c.symm)]; exact h.cs p hp
theorem Bits.congr {w : World} {cb n : Nat} {f f' : Nat → Bool} (h : Bits w cb n f) (hf : ∀ p, p < n → f' p = f p) : Bits w cb n f' := ⟨h.lt, fun k hk => by rw [hf k hk]; exact h.cs k hk, h.fr⟩
theorem Bits.made {w w1 : World} {n B : Nat} (hown : w1.ownsRow B 4 1 (.slice (some ⟨w.heap.size, 0, none⟩) n n) n (madeCells (Value.bool false).cells (n * 1)).toList) (hlt : w.heap.size < w1.heap.size) : Bits w1 w.heap.size n (fun _ => false) := by
  refine ⟨hlt, fun k hk => ?_, fun k => hown.frozenAt k⟩
  rw [hown.cellAt k (by omega)]
  show (madeCells #[Value.bool false] (n * 1)).toList[k]? = _
  rw [toList_madeCells_one, List.getElem?_replicate, if_pos (by omega)]
theorem Try.info4b : (Try.prog.info? 4).map (fun i => (i.zero, i.size, i.bytes)) = some (some (.bool false), 1, 1) := by kernel_rfl
/-- What a closure turned: nothing that stood but what is its own. -/
structure Turns (T : Nat → Prop) (w w' : World) : Prop where
  os : w'.os = w.os
  tape : w'.tape = w.tape
  output : w'.output = w.output
  size : w.heap.size ≤ w'.heap.size
  block : ∀ k, k < w.heap.size → ¬ T k → w'.heap[k]? = w.heap[k]?
/-- Where the nodes begin. -/
def begF (g : Gr) (l : List Txt) (p : Nat) : Bool := decide (p < g.length ∧ nmOf g p ∈ l)
theorem begF_step {g : Gr} (hg : Good g) {l : List Txt} {k : Nat} (hk : k < l.length) (p : Nat) (hp : p < g.length) :
    begF g (l.take (k + 1)) p = (if idxN g (l.getD k []) < g.length then (if p = idxN g (l.getD k []) then true else begF g (l.take k) p) else begF g (l.take k) p) := by
  rw [take_snoc (d := []) hk]
  have key : nmOf g p = l.getD k [] → idxN g (l.getD k []) = p := fun e => by rw [← e]; exact idx_nm hg hp
  unfold begF
  by_cases h1 : idxN g (l.getD k []) < g.length
  · rw [if_pos h1]
    by_cases h2 : p = idxN g (l.getD k [])
    · rw [if_pos h2]
      apply decide_eq_true
      refine ⟨hp, List.mem_append_right _ ?_⟩
      rw [h2, nm_idx h1]; exact List.mem_singleton.2 rfl
    · rw [if_neg h2]
      apply decide_eq_decide.2
      constructor
      · rintro ⟨a, b⟩
        rcases List.mem_append.1 b with b | b
        · exact ⟨a, b⟩
        · exact absurd (key (List.mem_singleton.1 b)).symm h2
      · rintro ⟨a, b⟩; exact ⟨a, List.mem_append_left _ b⟩
  · rw [if_neg h1]
    apply decide_eq_decide.2
    constructor
    · rintro ⟨a, b⟩
      rcases List.mem_append.1 b with b | b
      · exact ⟨a, b⟩
      · exact absurd (by rw [key (List.mem_singleton.1 b)]; exact hp) h1
    · rintro ⟨a, b⟩; exact ⟨a, List.mem_append_left _ b⟩
theorem begF_nil (g : Gr) (p : Nat) : begF g [] p = false := by unfold begF; simp
/-- What the walk holds: the closure, two rows of marks, and the variables of both. -/
structure WalkSt (lo b5 cb1 b6 cb2 b7 n : Nat) (fv : Value) (f1 f2 : Nat → Bool) (W : World) : Prop where
  c5 : W.cell? ⟨b5, 0, none⟩ = some fv
  c6 : W.cell? ⟨b6, 0, none⟩ = some (.slice (some ⟨cb1, 0, none⟩) n n)
  c7 : W.cell? ⟨b7, 0, none⟩ = some (.slice (some ⟨cb2, 0, none⟩) n n)
  r1 : Bits W cb1 n f1
  r2 : Bits W cb2 n f2
  ord : lo ≤ b5 ∧ b5 < cb1 ∧ cb1 < b6 ∧ b6 < cb2 ∧ cb2 < b7 ∧ b7 < W.heap.size
theorem WalkSt.kept {lo b5 cb1 b6 cb2 b7 n : Nat} {fv : Value} {f1 f2 : Nat → Bool} {W W' : World} (h : WalkSt lo b5 cb1 b6 cb2 b7 n fv f1 f2 W) (hk : ∀ k, k = b5 ∨ k = cb1 ∨ k = b6 ∨ k = cb2 ∨ k = b7 → W'.heap[k]? = W.heap[k]?) (hs : W.heap.size ≤ W'.heap.size) : WalkSt lo b5 cb1 b6 cb2 b7 n fv f1 f2 W' :=
  ⟨(World.cell?_of_block (w := W) (hk b5 (by simp))).trans h.c5, (World.cell?_of_block (w := W) (hk b6 (by simp))).trans h.c6, (World.cell?_of_block (w := W) (hk b7 (by simp))).trans h.c7, h.r1.kept (hk cb1 (by simp)) hs, h.r2.kept (hk cb2 (by simp)) hs, by have := h.ord; omega⟩
theorem WalkSt.set1 {lo b5 cb1 b6 cb2 b7 n : Nat} {fv : Value} {f1 f1' f2 : Nat → Bool} {W : World} (h : WalkSt lo b5 cb1 b6 cb2 b7 n fv f1 f2 W) {k : Nat} (hk : k < n) (hf : ∀ p, p < n → f1' p = (if p = k then true else f1 p)) : WalkSt lo b5 cb1 b6 cb2 b7 n fv f1' f2 (W.setCell ⟨cb1, k, none⟩ (.bool true)) := by
  have ho := h.ord
  have hb : ∀ q, q ≠ cb1 → (W.setCell ⟨cb1, k, none⟩ (.bool true)).heap[q]? = W.heap[q]? := fun q hq => Below.heap_setCell _ _ _ _ hq
  exact ⟨(World.cell?_of_block (w := W) (hb b5 (by omega))).trans h.c5, (World.cell?_of_block (w := W) (hb b6 (by omega))).trans h.c6, (World.cell?_of_block (w := W) (hb b7 (by omega))).trans h.c7, h.r1.set hk hf, h.r2.kept (hb cb2 (by omega)) (by simp), by simpa using ho⟩
theorem WalkSt.set2 {lo b5 cb1 b6 cb2 b7 n : Nat} {fv : Value} {f1 f2 f2' : Nat → Bool} {W : World} (h : WalkSt lo b5 cb1 b6 cb2 b7 n fv f1 f2 W) {k : Nat} (hk : k < n) (hf : ∀ p, p < n → f2' p = (if p = k then true else f2 p)) : WalkSt lo b5 cb1 b6 cb2 b7 n fv f1 f2' (W.setCell ⟨cb2, k, none⟩ (.bool true)) := by
  have ho := h.ord
  have hb : ∀ q, q ≠ cb2 → (W.setCell ⟨cb2, k, none⟩ (.bool true)).heap[q]? = W.heap[q]? := fun q hq => Below.heap_setCell _ _ _ _ hq
  exact ⟨(World.cell?_of_block (w := W) (hb b5 (by omega))).trans h.c5, (World.cell?_of_block (w := W) (hb b6 (by omega))).trans h.c6, (World.cell?_of_block (w := W) (hb b7 (by omega))).trans h.c7, h.r1.kept (hb cb1 (by omega)) (by simp), h.r2.set hk hf, by simpa using ho⟩
/-- What holds between two rounds: the closure's own, the walk's, and what has been turned. -/
structure WIT (J : List (Nat × Bool) → (Nat → Prop) → World → Prop) (T0 : Nat → Prop) (w : World) (b5 cb1 b6 cb2 b7 bx n : Nat) (fv : Value) (g : Gr) (f1 : Nat → Bool) (pre : List Nat) (T : Nat → Prop) (W : World) : Prop where
  j : J (wayOf g f1 pre).vs T W
  st : WalkSt b5 b5 cb1 b6 cb2 b7 n fv f1 (wayOf g f1 pre).bh W
  tu : Turns T0 w W
  lt : ∀ k, T k → T0 k ∨ (w.heap.size ≤ k ∧ k ≠ b5 ∧ k ≠ cb1 ∧ k ≠ b6 ∧ k ≠ cb2 ∧ k ≠ b7 ∧ k ≠ bx)
  bl : b7 < bx ∧ bx < W.heap.size
theorem Turns.grown {T : Nat → Prop} {w W W' : World} {row : Option Nat} (h : Turns T w W) (hg : W.grownBy W' row) (hr : ∀ r, row = some r → w.heap.size ≤ r) : Turns T w W' :=
  ⟨hg.os.trans h.os, hg.tape.trans h.tape, hg.output.trans h.output, Nat.le_trans h.size hg.size, fun k hk hT => (hg.block k (Nat.lt_of_lt_of_le hk h.size) (fun e => by have := hr k e.symm; omega)).trans (h.block k hk hT)⟩
theorem Turns.of_below {T : Nat → Prop} {w W : World} (h : Below w.heap.size w W) : Turns T w W := ⟨h.os, h.tape, h.output, h.size, fun k hk _ => h.block k hk⟩
theorem WIT.own {J : List (Nat × Bool) → (Nat → Prop) → World → Prop} {T0 : Nat → Prop} {w : World} {b5 cb1 b6 cb2 b7 bx n : Nat} {fv : Value} {g : Gr} {f1 : Nat → Bool} {pre : List Nat} {T : Nat → Prop} {W W' : World} {row : Option Nat} {B' : Nat}
    (hJc : ∀ pre T W, J pre T W → ∀ k, T k → ∃ o : Obj, W.heap[k]? = some o ∧ o.isCells = true) (hJk : ∀ pre T W W', J pre T W → (∀ k, T k → W'.heap[k]? = W.heap[k]?) → W.heap.size ≤ W'.heap.size → J pre T W')
    (h : WIT J T0 w b5 cb1 b6 cb2 b7 bx n fv g f1 pre T W) (hB : b7 < B') (hw : w.heap.size ≤ B') (hg : W.grownBy W' row) (hr : ∀ r, row = some r → B' ≤ r ∧ ∃ o : Obj, W.heap[r]? = some o ∧ o.isCells = false) : WIT J T0 w b5 cb1 b6 cb2 b7 bx n fv g f1 pre T W' := by
  have ho := h.st.ord
  refine ⟨hJk _ _ _ _ h.j (fun k hk => ?_) hg.size, h.st.kept (fun k hk => ?_) hg.size, h.tu.grown hg (fun r e => by have := (hr r e).1; omega), h.lt, by have := h.bl; have := hg.size; omega⟩
  · obtain ⟨o, h1, h2⟩ := hJc _ _ _ h.j k hk
    refine hg.block k (Array.getElem?_eq_some_iff.1 h1).1 (fun e => ?_)
    obtain ⟨_, o', h3, h4⟩ := hr k e.symm
    rw [h1] at h3
    injection h3 with h3
    rw [← h3, h2] at h4; cases h4
  · refine hg.block k ?_ (fun e => ?_)
    · rcases hk with rfl | rfl | rfl | rfl | rfl <;> omega
    · have := (hr k e.symm).1
      rcases hk with rfl | rfl | rfl | rfl | rfl <;> omega
theorem WIT.skip {J : List (Nat × Bool) → (Nat → Prop) → World → Prop} {T0 : Nat → Prop} {w : World} {b5 cb1 b6 cb2 b7 bx n : Nat} {fv : Value} {g : Gr} {f1 : Nat → Bool} {pre : List Nat} {T : Nat → Prop} {W : World} {p : Nat}
    (h : WIT J T0 w b5 cb1 b6 cb2 b7 bx n fv g f1 pre T W) (h1 : f1 p = false) (h2 : (wayOf g f1 pre).bh p = false) : WIT J T0 w b5 cb1 b6 cb2 b7 bx n fv g f1 (pre ++ [p]) T W := by
  have e : wayOf g f1 (pre ++ [p]) = wayOf g f1 pre := by
    rw [wayOf_snoc]; unfold wayStep; rw [h1, h2]; rfl
  exact ⟨by rw [e]; exact h.j, by rw [e]; exact h.st, h.tu, h.lt, h.bl⟩
/-- Behind the closure's call: the walk's own, and what has been turned. -/
theorem WIT.called {J : List (Nat × Bool) → (Nat → Prop) → World → Prop} {T0 : Nat → Prop} {w : World} {b5 cb1 b6 cb2 b7 bx n : Nat} {fv : Value} {g : Gr} {f1 : Nat → Bool} {pre : List Nat} {T T' : Nat → Prop} {W W' : World}
    (h : WIT J T0 w b5 cb1 b6 cb2 b7 bx n fv g f1 pre T W) (h0 : ∀ k, T0 k → k < w.heap.size) (hw : w.heap.size ≤ b5) (ht : Turns T W W') (hT' : ∀ k, T' k → T k ∨ W.heap.size ≤ k) :
    WalkSt b5 b5 cb1 b6 cb2 b7 n fv f1 (wayOf g f1 pre).bh W' ∧ Turns T0 w W' ∧ (∀ k, T' k → T0 k ∨ (w.heap.size ≤ k ∧ k ≠ b5 ∧ k ≠ cb1 ∧ k ≠ b6 ∧ k ≠ cb2 ∧ k ≠ b7 ∧ k ≠ bx)) ∧ (b7 < bx ∧ bx < W'.heap.size) ∧ W'.heap[bx]? = W.heap[bx]? := by
  have ho := h.st.ord
  have hbl := h.bl
  have hsz := ht.size
  have hts := h.tu.size
  have hn : ∀ k, k = b5 ∨ k = cb1 ∨ k = b6 ∨ k = cb2 ∨ k = b7 ∨ k = bx → ¬ T k ∧ k < W.heap.size := fun k hk => by
    refine ⟨fun hT => ?_, by rcases hk with rfl | rfl | rfl | rfl | rfl | rfl <;> omega⟩
    rcases h.lt k hT with h1 | h1
    · have := h0 k h1
      rcases hk with rfl | rfl | rfl | rfl | rfl | rfl <;> omega
    · rcases hk with rfl | rfl | rfl | rfl | rfl | rfl <;> omega
  refine ⟨h.st.kept (fun k hk => ht.block k (hn k (by rcases hk with h | h | h | h | h <;> simp [h])).2 (hn k (by rcases hk with h | h | h | h | h <;> simp [h])).1) hsz, ?_, ?_, by omega, ht.block bx hbl.2 (hn bx (by simp)).1⟩
  · refine ⟨ht.os.trans h.tu.os, ht.tape.trans h.tu.tape, ht.output.trans h.tu.output, Nat.le_trans h.tu.size hsz, fun k hk hT => ?_⟩
    refine (ht.block k (Nat.lt_of_lt_of_le hk h.tu.size) (fun hT2 => ?_)).trans (h.tu.block k hk hT)
    rcases h.lt k hT2 with h1 | h1
    · exact hT h1
    · omega
  · intro k hk
    rcases hT' k hk with h1 | h1
    · exact h.lt k h1
    · exact Or.inr (by omega)
/-- Behind a place that is reached. -/
theorem WIT.next {J : List (Nat × Bool) → (Nat → Prop) → World → Prop} {T0 : Nat → Prop} {w : World} {b5 cb1 b6 cb2 b7 bx n : Nat} {fv : Value} {g : Gr} {f1 : Nat → Bool} {pre : List Nat} {T' : Nat → Prop} {W3 W' : World} {p : Nat}
    (hJc : ∀ pre T W, J pre T W → ∀ k, T k → ∃ o : Obj, W.heap[k]? = some o ∧ o.isCells = true) (hJk : ∀ pre T W W', J pre T W → (∀ k, T k → W'.heap[k]? = W.heap[k]?) → W.heap.size ≤ W'.heap.size → J pre T W')
    (h0 : ∀ k, T0 k → k < w.heap.size) (hw : w.heap.size ≤ b5)
    (st : WalkSt b5 b5 cb1 b6 cb2 b7 n fv f1 (fun q => (wayOf g f1 pre).bh q || (psOf g p).contains q) W') (tu : Turns T0 w W3) (hg : W3.grownBy W' (some cb2))
    (lt : ∀ k, T' k → T0 k ∨ (w.heap.size ≤ k ∧ k ≠ b5 ∧ k ≠ cb1 ∧ k ≠ b6 ∧ k ≠ cb2 ∧ k ≠ b7 ∧ k ≠ bx)) (bl : b7 < bx ∧ bx < W3.heap.size) (j : J ((wayOf g f1 pre).vs ++ [(p, !(wayOf g f1 pre).bh p)]) T' W3)
    (h1 : (f1 p || (wayOf g f1 pre).bh p) = true) : WIT J T0 w b5 cb1 b6 cb2 b7 bx n fv g f1 (pre ++ [p]) T' W' := by
  have ho := st.ord
  have e : wayOf g f1 (pre ++ [p]) = ⟨fun q => (wayOf g f1 pre).bh q || (psOf g p).contains q, (wayOf g f1 pre).vs ++ [(p, !(wayOf g f1 pre).bh p)]⟩ := by
    rw [wayOf_snoc]; unfold wayStep; rw [if_pos h1]
  refine ⟨?_, by rw [e]; exact st, tu.grown hg (fun r hr => by injection hr with hr; omega), lt, by have := hg.size; omega⟩
  rw [e]
  refine hJk _ _ _ _ j (fun k hk => ?_) hg.size
  obtain ⟨o, h2, _⟩ := hJc _ _ _ j k hk
  refine hg.block k (Array.getElem?_eq_some_iff.1 h2).1 (fun e2 => ?_)
  injection e2 with e2
  rcases lt k hk with h3 | h3
  · have := h0 k h3; omega
  · omega
theorem cells_lenB {S : Nat → Prop} {w : World} {v : Value} {n sz : Nat} {cs : List Value} (h : CellsC S w v n sz cs) : n ≤ 9223372036854775807 := by
  obtain ⟨a, c, rfl⟩ := h.shape
  by_cases h0 : n = 0
  · omega
  · obtain ⟨_, _, _, _, h1, h2, _⟩ := h.at (by omega)
    omega
theorem rf_enter {P : Program} {c : Code} {Q : Exit → Act → World → Prop} {tm : Array Value} {w : World} (h : ∀ t, t = tm → c.wp P Q ⟨t, []⟩ w) : c.wp P Q ⟨tm, []⟩ w := h tm rfl
theorem WalkSt.kept1 {lo b5 cb1 b6 cb2 b7 n : Nat} {fv : Value} {f1 f1' f2 : Nat → Bool} {W : World} (h : WalkSt lo b5 cb1 b6 cb2 b7 n fv f1 f2 W) (hf : ∀ p, p < n → f1' p = f1 p) : WalkSt lo b5 cb1 b6 cb2 b7 n fv f1' f2 W :=
  ⟨h.c5, h.c6, h.c7, h.r1.congr hf, h.r2, h.ord⟩
set_option maxHeartbeats 1000000 in
/-- slices.Backward: the slice is boxed; the function value captures the box. -/
theorem backM_any (a : Option Addr) (n c : Nat) (w : World) : Calls Try.prog 41 #[.slice a n c] w fun e w' => e = .returned (.func (.func 51) #[] #[.pointer (some ⟨w.heap.size, 0, none⟩)]) ∧ w' = w.alloc (.cells #[.slice a n c] 61) := by
  go_enter Try.func41, Try.ntmps41
  go_wp2_with fail
  go_ret
  exact ⟨rfl, rfl⟩
set_option maxRecDepth 100000 in
set_option maxHeartbeats 4000000 in
theorem walk_any (B : Nat) (S S2 : Nat → Prop) (bg bm : Nat) (va v : Value) (D : DataW Unit) (mb : Nat → Nat) (g : Gr) (l : List Txt) (w : World) (h : GrAt B S w bg bm va D mb g) (hS2 : ∀ k, S2 k → k < w.heap.size) (hv : StrsC S2 w v l) (hl : l.length ≤ 4194304) (hx : ∀ x ∈ l, x.length ≤ 4194304)
    (K : Nat) (cap : Array Value) (J : List (Nat × Bool) → (Nat → Prop) → World → Prop) (T0 : Nat → Prop) (hT0 : ∀ k, T0 k → k < w.heap.size ∧ ¬ GrDom S va k)
    (eK : ∀ args w, (callFunc K args).run Try.prog w = .ok (.enter K args) w)
    (hJc : ∀ pre T W, J pre T W → ∀ k, T k → ∃ o : Obj, W.heap[k]? = some o ∧ o.isCells = true)
    (hJk : ∀ pre T W W', J pre T W → (∀ k, T k → W'.heap[k]? = W.heap[k]?) → W.heap.size ≤ W'.heap.size → J pre T W')
    (h0 : J [] T0 w)
    (hV : ∀ pre T W p t, p < g.length → pre.length < g.length → J pre T W → (∀ k, T k → ¬ GrDom S va k) → GrAt B S W bg bm va D mb g →
      Calls Try.prog K (#[.pointer (some ⟨mb p, 0, none⟩), .bool t] ++ cap) W fun e W' => e = .returned (.tuple #[]) ∧ ∃ T', (∀ k, T' k → T k ∨ W.heap.size ≤ k) ∧ J (pre ++ [(p, t)]) T' W' ∧ Turns T W W') :
    Calls Try.prog 29 #[.pointer (some ⟨bg, 0, none⟩), v, .func (.func K) #[] cap] w fun e W' => e = .returned (.tuple #[]) ∧ ∃ T', (∀ k, T' k → T0 k ∨ w.heap.size ≤ k) ∧ J (visN g (begF g l) g.length) T' W' ∧ Turns T0 w W' := by
  obtain ⟨i0, hi, hz0, hz1, hz2⟩ := info_parts Try.info4b
  have HG := Lib.hid h
  have HV := Lib.hid hv
  have HR := Lib.hid (Below.refl w.heap.size w)
  have HX : Hid (∀ j, j < l.length → (l.getD j []).length ≤ 4194304) := Lib.hid (fun j hj => by rw [getD_at hj]; exact hx _ (List.getElem_mem hj))
  have hgl := h.len
  have c0 := h.c0
  have c1 := h.c1
  have hbl : bg < w.heap.size := (h.dom bg h.sg).2
  obtain ⟨va1, vc1, rfl⟩ := (own_cells h.row (pv_one _ _)).shape
  obtain ⟨la, lc, rfl⟩ := hv.shape
  clear h hv hx
  refine (callsIn_wide (n := 6)).1 (callsIn_of_wp_marks Try.func29 rfl trivial (wpIn_wide.2 ?_) rfl)
  simp only [Try.ntmps29, List.size_toArray, List.length_cons, List.length_nil, Nat.reduceAdd, Nat.reduceSub, Array.replicate_succ, Array.replicate_zero, List.push_toArray, List.append_toArray, List.nil_append, List.cons_append]
  obtain ⟨n, hn⟩ : ∃ n, g.length = n := ⟨_, rfl⟩
  have HN := Lib.hid hn
  rw [hn] at hgl c1
  clear hn
  go_upto_region 1 with (fail)
  have hA : Hid (Below w.heap.size w (w.alloc (.cells #[.func (.func K) #[] cap] 69))) := Lib.hid ((Below.refl w.heap.size w).alloc (Nat.le_refl _) _)
  have a5 : (w.alloc (.cells #[.func (.func K) #[] cap] 69)).cell? ⟨w.heap.size, 0, none⟩ = some (.func (.func K) #[] cap) := cell_of_one (new_five _ _ _)
  have sA : w.heap.size + 1 ≤ (w.alloc (.cells #[.func (.func K) #[] cap] 69)).heap.size := by simp
  generalize w.alloc (.cells #[.func (.func K) #[] cap] 69) = wA at *
  have d1 := (World.cell?_of_block (w := w) (a := ⟨bg, 1, none⟩) (hA.out.block bg hbl)).trans c1
  go_upto_region 2 with (at_make; refine wpList_make_full _ rfl _ _ 66 rfl w.heap.size 4 i0 (.bool false) 1 Try.underlying66 hi hz0 hz1 .i64 .i64 _ _ n rfl rfl (by omega) (by omega) (by rw [hz2]; omega) (by unfold maxLen; omega) (by omega) ?_; intro w1 hown hgrow)
  have hlt1 : wA.heap.size < w1.heap.size := (hown.lt _ rfl).2
  have hB1 : Hid (Below w.heap.size w (w1.alloc (.cells #[.slice (some ⟨wA.heap.size, 0, none⟩) n n] 66))) := Lib.hid ((hA.out.grown hgrow (by omega) (fun j hj => by cases hj)).alloc (by omega) _)
  have hG1 : Hid (∀ q, q < wA.heap.size → (w1.alloc (.cells #[.slice (some ⟨wA.heap.size, 0, none⟩) n n] 66)).heap[q]? = wA.heap[q]?) := Lib.hid (fun q hq => (Below.heap_alloc _ _ _ (by omega)).trans (hgrow.block q hq (by simp)))
  have hR1 : Hid (Bits (w1.alloc (.cells #[.slice (some ⟨wA.heap.size, 0, none⟩) n n] 66)) wA.heap.size n (fun _ => false)) := Lib.hid ((Bits.made hown hlt1).kept (Below.heap_alloc _ _ _ (by omega)) (by simp))
  have a6 := cell_of_one (new_five w1 #[.slice (some ⟨wA.heap.size, 0, none⟩) n n] 66)
  have sB : w1.heap.size + 1 ≤ (w1.alloc (.cells #[.slice (some ⟨wA.heap.size, 0, none⟩) n n] 66)).heap.size := by simp
  have H5 := Lib.hid ((World.cell?_of_block (w := wA) (a := ⟨w.heap.size, 0, none⟩) (hG1.out w.heap.size (by omega))).trans a5)
  have H6 := Lib.hid a6
  clear a5 a6 hown hgrow d1 hG1
  generalize w1.alloc (.cells #[.slice (some ⟨wA.heap.size, 0, none⟩) n n] 66) = wB at *
  generalize wA.heap.size = cb1 at *
  generalize w1.heap.size = b6 at *
  have d1 := (World.cell?_of_block (w := w) (a := ⟨bg, 1, none⟩) (hB1.out.block bg hbl)).trans c1
  go_upto_region 3 with (at_make; refine wpList_make_full _ rfl _ _ 66 rfl w.heap.size 4 i0 (.bool false) 1 Try.underlying66 hi hz0 hz1 .i64 .i64 _ _ n rfl rfl (by omega) (by omega) (by rw [hz2]; omega) (by unfold maxLen; omega) (by omega) ?_; intro w1 hown hgrow)
  have hlt2 : wB.heap.size < w1.heap.size := (hown.lt _ rfl).2
  have hB2 : Hid (Below w.heap.size w (w1.alloc (.cells #[.slice (some ⟨wB.heap.size, 0, none⟩) n n] 66))) := Lib.hid ((hB1.out.grown hgrow (by omega) (fun j hj => by cases hj)).alloc (by omega) _)
  have hG2 : ∀ q, q < wB.heap.size → (w1.alloc (.cells #[.slice (some ⟨wB.heap.size, 0, none⟩) n n] 66)).heap[q]? = wB.heap[q]? := fun q hq => (Below.heap_alloc _ _ _ (by omega)).trans (hgrow.block q hq (by simp))
  have hst : WalkSt w.heap.size w.heap.size cb1 b6 wB.heap.size w1.heap.size n (.func (.func K) #[] cap) (begF g []) (fun _ => false) (w1.alloc (.cells #[.slice (some ⟨wB.heap.size, 0, none⟩) n n] 66)) :=
    ⟨(World.cell?_of_block (w := wB) (a := ⟨w.heap.size, 0, none⟩) (hG2 w.heap.size (by omega))).trans H5.out, (World.cell?_of_block (w := wB) (a := ⟨b6, 0, none⟩) (hG2 b6 (by omega))).trans H6.out, cell_of_one (new_five w1 _ _), (hR1.out.kept (hG2 cb1 (by omega)) (by simp; omega)).congr (fun p _ => begF_nil g p), (Bits.made hown hlt2).kept (Below.heap_alloc _ _ _ (by omega)) (by simp), by simp; omega⟩
  have ST := Lib.hid hst
  clear hst hG2 hown hgrow d1 hR1 H5 H6 hA hB1
  generalize w1.alloc (.cells #[.slice (some ⟨wB.heap.size, 0, none⟩) n n] 66) = wC at *
  generalize wB.heap.size = cb2 at *
  generalize w1.heap.size = b7 at *
  obtain ⟨b5, hb5⟩ : ∃ b5, w.heap.size = b5 := ⟨_, rfl⟩
  have HB5 := Lib.hid hb5
  have hmk : Hid (WalkSt b5 b5 cb1 b6 cb2 b7 n (.func (.func K) #[] cap) (begF g []) (fun _ => false) wC ∧ Below w.heap.size w wC) := Lib.hid ⟨by rw [← hb5]; exact ST.out, hB2.out⟩
  clear ST hB2 hlt1 hlt2 sA sB c0 c1
  rw [hb5]
  clear hb5
  go_wp2_with fail
  go_loopw [29] (fun i wr => ∃ k : Nat, k ≤ l.length ∧ i = .int .i64 k ∧ Hid (WalkSt b5 b5 cb1 b6 cb2 b7 n (.func (.func K) #[] cap) (begF g (l.take k)) (fun _ => false) wr ∧ Below w.heap.size w wr)) (fun i _ => l.length - (intOf i).toNat)
  case atStart => exact ⟨0, Nat.zero_le _, rfl, hmk⟩
  case round =>
    obtain ⟨k, hk, rfl, hrd⟩ := hrel
    by_cases hlt : k < l.length
    · have hgr := HG.out.below hrd.out.2
      have hSt := hrd.out.1
      have hord := hSt.ord
      obtain ⟨lg, lo, rfl, hSg, _, _, hxs⟩ := HV.out.at (by omega)
      have cx := (World.cell?_of_block (w := w) (a := ⟨lg, lo + k, none⟩) (hrd.out.2.block lg (hS2 lg hSg))).trans (hxs k hlt)
      have c0 := hgr.c0
      have hlk := hgr.look (HX.out k hlt)
      have HBS := Lib.hid (fun p hp => begF_step HG.out.good hlt p hp)
      by_cases hin : idxN g (l.getD k []) < g.length
      · rw [if_pos hin] at hlk
        obtain ⟨mv, m0, m1, m2, _⟩ := hgr.mems _ hin
        have HI := Lib.hid hin
        have hpn : idxN g (l.getD k []) < n := by rw [← HN.out]; exact hin
        clear m0 m2 hin hxs
        have c6 := hSt.c6
        have f1 := hSt.r1.cs _ hpn
        have f2 := hSt.r1.fr (idxN g (l.getD k []))
        have HS3 := Lib.hid hSt
        have HGR := Lib.hid hgr
        clear hSt hgr
        generalize hp : idxN g (l.getD k []) = p at *
        have HP := Lib.hid hp
        clear hp
        generalize mb p = mp at *
        generalize begF g (List.take k l) p = bo at *
        generalize l.getD k [] = x at *
        go_wp2_with fail
        go_region
        go_wp2_with fail
        go_roundw
        case rel =>
          refine ⟨k + 1, by omega, by go_num, Lib.hid ⟨?_, ?_⟩⟩
          · refine WalkSt.kept (HS3.out.set1 (f1' := begF g (l.take (k + 1))) hpn (fun q hq => ?_)) (fun _ _ => rfl) (Nat.le_refl _)
            have := HBS.out q (by rw [HN.out]; exact hq)
            rw [this, if_pos HI.out]
          · exact (hrd.out.2.setCell (by show w.heap.size ≤ cb1; rw [HB5.out]; omega) _).trans (drewn w.heap.size _ 1)
        case measure => simp [intOf]; omega
      · rw [if_neg hin] at hlk
        have HI := Lib.hid hin
        have HS3 := Lib.hid hSt
        clear hin hxs hSt hgr
        generalize l.getD k [] = x at *
        go_wp2_with fail
        go_roundw
        case rel => exact ⟨k + 1, by omega, by go_num, Lib.hid ⟨HS3.out.kept1 (fun q hq => by rw [HBS.out q (by rw [HN.out]; exact hq), if_neg HI.out]), hrd.out.2⟩⟩
        case measure => simp [intOf]; omega
    · have HK : Hid (l.take k = l) := Lib.hid (List.take_of_length_le (by omega))
      have hd2 : Hid (WalkSt b5 b5 cb1 b6 cb2 b7 n (.func (.func K) #[] cap) (begF g l) (fun _ => false) wr ∧ Below w.heap.size w wr) := Lib.hid (by have := hrd.out; rwa [HK.out] at this)
      clear hrd
      have c1 := (HG.out.below hd2.out.2).c1
      go_upto_region 11 with (go_at_call 41; refine (backM_any _ _ _ _).mono ?_; rintro e w2 ⟨rfl, rfl⟩)
      refine rf_enter ?_
      intro tm htm
      have HTM := Lib.hid htm
      clear htm
      have hSt := hd2.out.1
      have hord := hSt.ord
      have hbx : b7 < wr.heap.size := hord.2.2.2.2.2
      have hbelow := hd2.out.2
      have hgr := HG.out.below (hbelow.alloc hbelow.size (.cells #[.slice va1 g.length vc1] 61))
      have hbox : (wr.alloc (.cells #[.slice va1 g.length vc1] 61)).cell? ⟨wr.heap.size, 0, none⟩ = some (.slice va1 g.length vc1) := cell_of_one (new_five _ _ _)
      have hrow := own_self hgr.row (pv_one _ _)
      have hdl := hgr.domlt
      refine (wpIn_wide (n := 6)).1 ?_
      refine wpIn_rangeFunc_ownG rfl (by omega) (gf := 51) (lb := #[.pointer (some ⟨wr.heap.size, 0, none⟩)]) (by rw [HTM.out]; rfl) trivial (enters_of Try.func51 (by kernel_rfl) rfl)
        (back_stops Fence.wide (6 - 1) trivial rfl (by omega) (fun q => (Value.slice va1 g.length vc1).ownBlock = some q) wr.heap.size (.slice va1 g.length vc1) g.length mb (wr.alloc (.cells #[.slice va1 g.length vc1] 61)) (by rw [HN.out]; omega) hbox (by simp) (fun q hq => (hdl q (Or.inr hq)).2) hrow)
        KpX.trans (fun W l o o' a b c d => KpX.putObj (n := (wr.alloc (.cells #[.slice va1 g.length vc1] 61)).heap.size) (fun q hq => hq.elim (fun e => by subst e; simp) (fun e => (hdl q (Or.inr e)).2)) W l o o' a b c d) (Below.refl _ _) (fun _ => rfl)
        (fun pre W => ∃ T, WIT J T0 w b5 cb1 b6 cb2 b7 wr.heap.size n (.func (.func K) #[] cap) g (begF g l) (pre.map (·.1)) T W) (fun _ _ _ => False)
        (fun s A Bw row hs hg hr => by obtain ⟨T, hs⟩ := hs; exact ⟨T, hs.own hJc hJk (by simp; omega) (by have := hbelow.size; simp; omega) hg hr⟩) (fun _ _ _ _ _ hs _ _ => hs) ⟨T0, ?start⟩
        (fun x => ⟨(((tm.setIfInBounds 53 (.int .i64 (x.1 : Int))).setIfInBounds 54 (.pointer (some ⟨mb x.1, 0, none⟩))).setIfInBounds 11 (.int .i64 (x.1 : Int))).setIfInBounds 12 (.pointer (some ⟨mb x.1, 0, none⟩)), []⟩) ?assign ?body ?done ?stop
      case start =>
        refine ⟨hJk _ _ _ _ h0 (fun q hq => ?_) (by have := hbelow.size; simp; omega), hSt.kept (fun q hq => Below.heap_alloc _ _ _ (by rcases hq with rfl | rfl | rfl | rfl | rfl <;> omega)) (by simp), Turns.of_below (hbelow.alloc hbelow.size _), fun q hq => Or.inl hq, by simp; omega⟩
        exact (hbelow.alloc hbelow.size _).block q (hT0 q hq).1
      case assign =>
        intro l2 x W K2 hK2
        have htm := HTM.out
        subst htm
        simp only [List.setIfInBounds_toArray, List.set_cons_succ, List.set_cons_zero] at hK2
        gi_wp2
        exact hK2
      case body =>
        rintro l2 pre x W ⟨T, hI⟩ hlen
        have htm := HTM.out
        subst htm
        simp only [List.setIfInBounds_toArray, List.set_cons_succ, List.set_cons_zero]
        have hst := hI.st
        have hpn : x.1 < n := by have := x.2; have := HN.out; omega
        have c6 := hst.c6
        have c7 := hst.c7
        have e1 := hst.r1.cs _ hpn
        have e2 := hst.r2.cs _ hpn
        have HI := Lib.hid hI
        clear hI hst
        obtain ⟨p, hp⟩ : ∃ p, x.1 = p := ⟨_, rfl⟩
        rw [hp] at e1 e2 hpn ⊢
        have HP := Lib.hid hp
        clear hp
        generalize hq1 : begF g l p = q1 at *
        generalize hq2 : (wayOf g (begF g l) (pre.map (·.1))).bh p = q2 at *
        have HQ1 := Lib.hid hq1
        have HQ2 := Lib.hid hq2
        clear hq1 hq2
        cases q1 <;> cases q2
        · gi_wp2
          refine ⟨KeepsFrom.refl _ _, KpX.refl _ _, T, ?_⟩
          rw [List.map_append, List.map_singleton, HP.out]
          exact HI.out.skip HQ1.out HQ2.out
        all_goals
          have hgW : GrAt B S W bg bm (.slice va1 g.length vc1) D mb g := HG.out.kept (fun k hk => HI.out.tu.block k (HG.out.domlt k hk).2 (fun ht => (hT0 k ht).2 hk)) HI.out.tu.size
          have hTd : ∀ k, T k → ¬ GrDom S (.slice va1 g.length vc1) k := fun k hk hg => by
            rcases HI.out.lt k hk with ht | ht
            · exact (hT0 k ht).2 hg
            · have := (HG.out.domlt k hg).2; omega
          have HC := Lib.hid (fun t => hV _ T W.drew p t (by rw [HN.out]; exact hpn) (Nat.lt_of_le_of_lt (way_len _ _ _) (by simpa using hlen)) (hJk _ _ _ _ HI.out.j (fun _ _ => rfl) (Nat.le_refl _)) hTd (hgW.kept (fun _ _ => rfl) (Nat.le_refl _)))
          have HGW := Lib.hid hgW
          have HTD := Lib.hid hTd
          clear hgW hTd
          have c5 := HI.out.st.c5
          gi_wp2
          refine round_still_tail 7 (by kernel_rfl) (by kernel_rfl) (by kernel_rfl) ?_
          simp only [List.take_succ_cons, List.take_zero, List.drop_succ_cons, List.drop_zero]
          repeat still_step
          try refine wpStill_nil ?_
          go_wp2_with fail
          refine (HC.out _).mono ?_
          rintro e W3 ⟨rfl, T', hT', hJ', hTu⟩
          obtain ⟨st3, tu3, lt3, bl3, bx3⟩ := HI.out.called (fun q hq => (hT0 q hq).1) (by rw [HB5.out]; exact Nat.le_refl _) (W' := W3) ⟨hTu.os, hTu.tape, hTu.output, hTu.size, hTu.block⟩ hT'
          have hpg : p < g.length := by rw [HN.out]; exact hpn
          have HG3 : Hid (GrAt B S W3 bg bm (.slice va1 g.length vc1) D mb g) := Lib.hid (HGW.out.kept (fun k hk => hTu.block k (HGW.out.domlt k hk).2 (fun ht => HTD.out k ht hk)) hTu.size)
          obtain ⟨pv2, _, _, m2, mps⟩ := HG3.out.mems p hpg
          obtain ⟨pa, pc, rfl⟩ := mps.shape
          have HMPS := Lib.hid mps
          have HPL : (psOf g p).length ≤ 9223372036854775807 := cells_lenB HMPS.out
          have ST3 := Lib.hid st3
          have TU3 := Lib.hid tu3
          have LT3 := Lib.hid lt3
          have BL3 := Lib.hid bl3
          have BX3 := Lib.hid bx3
          have HJ3 := Lib.hid hJ'
          have HTU := Lib.hid hTu
          have HT' := Lib.hid hT'
          have HPG := Lib.hid hpg
          clear mps st3 tu3 lt3 bl3 bx3 hJ' hTu hT' hpg HC c6 c7 e1 e2 c5
          go_wp2_with fail
          refine ⟨?_, by simp⟩
          gi_wp2
          gi_loopw [80] (fun i wr => ∃ k : Nat, k ≤ (psOf g p).length ∧ i = .int .i64 k ∧ Hid (WalkSt b5 b5 cb1 b6 cb2 b7 n (.func (.func K) #[] cap) (begF g l) (fun q => (wayOf g (begF g l) (pre.map (·.1))).bh q || ((psOf g p).take k).contains q) wr) ∧ Hid (W3.grownBy wr (some cb2))) (fun i _ => (psOf g p).length - (intOf i).toNat)
          case atStart => exact ⟨0, Nat.zero_le _, rfl, Lib.hid (by simpa using ST3.out), Lib.hid (kb_refl _ _)⟩
          case round =>
            obtain ⟨k2, hk2, rfl, hs4, hg4⟩ := hrel
            by_cases hlt2 : k2 < (psOf g p).length
            · obtain ⟨pg, po, rfl, hpS, _, _, hpc⟩ := HMPS.out.at (by omega)
              have hSlt : ∀ q, S q → q < w.heap.size := fun q hq => (HG.out.dom q hq).2
              have hcb : b5 < cb2 := by have := hs4.out.ord; omega
              have hblk : ∀ q, S q → wr.heap[q]? = W3.heap[q]? := fun q hq => hg4.out.block q (by have := hSlt q hq; have := TU3.out.size; omega) (fun e => by injection e with e; have := hSlt q hq; have := HB5.out; omega)
              have hjm : (psOf g p).getD k2 0 ∈ psOf g p := by rw [getD_at hlt2]; exact List.getElem_mem hlt2
              have hjp := (down_lt HG.out.good hjm).1
              have hjn : (psOf g p).getD k2 0 < n := by omega
              have p1 := (World.cell?_of_block (w := W3) (a := ⟨pg, po + k2, none⟩) (hblk pg hpS)).trans (hpc k2 _ (pv_at hlt2))
              obtain ⟨_, _, j1, _, _⟩ := HG3.out.mems ((psOf g p).getD k2 0) (by have := HPG.out; omega)
              have j2 := (World.cell?_of_block (w := W3) (a := ⟨mb ((psOf g p).getD k2 0), 1, none⟩) (hblk _ (HG3.out.smb _ (by have := HPG.out; omega)))).trans j1
              have HF : Hid (∀ q, ((wayOf g (begF g l) (pre.map (·.1))).bh q || ((psOf g p).take (k2 + 1)).contains q) = (if q = (psOf g p).getD k2 0 then true else ((wayOf g (begF g l) (pre.map (·.1))).bh q || ((psOf g p).take k2).contains q))) := Lib.hid (fun q => by
                rw [take_snoc (d := 0) hlt2, List.contains_append]
                by_cases e : q = (psOf g p).getD k2 0
                · rw [if_pos e, ← e]; simp
                · have e2 : (q == (psOf g p).getD k2 0) = false := beq_eq_false_iff_ne.2 e
                  rw [if_neg e, List.contains_cons, e2, List.contains_nil, Bool.or_false, Bool.or_false])
              have c7 := hs4.out.c7
              have f1 := hs4.out.r2.cs _ hjn
              have f2 := hs4.out.r2.fr ((psOf g p).getD k2 0)
              clear hSlt hblk hjm hjp j1 hpc
              generalize (psOf g p).getD k2 0 = j at *
              generalize mb j = mj at *
              generalize ((wayOf g (begF g l) (pre.map (·.1))).bh j || ((psOf g p).take k2).contains j) = bo at *
              gi_wp2
              refine round_still_tail 6 (by kernel_rfl) (by kernel_rfl) (by kernel_rfl) ?_
              simp only [List.take_succ_cons, List.take_zero, List.drop_succ_cons, List.drop_zero]
              repeat still_step
              try refine wpStill_nil ?_
              go_wp2_with fail
              refine ⟨?_, by simp⟩
              gi_wp2
              go_roundw
              case rel =>
                refine ⟨k2 + 1, by omega, by go_num, Lib.hid ?_, Lib.hid ?_⟩
                · exact WalkSt.kept (hs4.out.set2 hjn (fun q _ => HF.out q)) (fun _ _ => rfl) (Nat.le_refl _)
                · exact kb_trans hg4.out (kb_trans (kb_set wr cb2 j _) (kb_any (drewn _ _ 1) _))
              case measure => simp [intOf]; omega
            · have HTK : Hid ((psOf g p).take k2 = psOf g p) := Lib.hid (List.take_of_length_le (by omega))
              gi_wp2
              have hfin : WIT J T0 w b5 cb1 b6 cb2 b7 _ n (.func (.func K) #[] cap) g (begF g l) (pre.map (·.1) ++ [p]) T' wr :=
                WIT.next hJc hJk (fun q hq => (hT0 q hq).1) (by rw [HB5.out]; exact Nat.le_refl _) (by have := hs4.out; rwa [HTK.out] at this) TU3.out hg4.out LT3.out BL3.out (by rw [HQ2.out]; exact HJ3.out) (by rw [HQ1.out, HQ2.out]; rfl)
              have hcb2 : b7 < wr.heap.size ∧ cb2 < b7 ∧ w.heap.size ≤ cb2 := by have := hs4.out.ord; have := HB5.out; omega
              refine ⟨⟨?_, fun q o hq ho hoc => ?_⟩, fun q hq => ?_, T', ?_⟩
              · exact Nat.le_trans HTU.out.size hg4.out.size
              · have hq2 : b7 < q := by have := BL3.out.1; simp at hq; omega
                have hTq : ¬ T q := fun ht => by
                  obtain ⟨o2, h2, h3⟩ := hJc _ _ _ HI.out.j q ht
                  rw [ho] at h2
                  injection h2 with h2
                  rw [h2, h3] at hoc; cases hoc
                have hql : q < W.heap.size := (Array.getElem?_eq_some_iff.1 ho).1
                exact (hg4.out.block q (Nat.lt_of_lt_of_le hql HTU.out.size) (fun e => by injection e with e; omega)).trans ((HTU.out.block q hql hTq).trans ho)
              · rcases hq with rfl | hq
                · exact (hg4.out.block _ BL3.out.2 (fun e => by injection e with e; have := BL3.out.1; omega)).trans BX3.out
                · have hql := (HGW.out.domlt q (Or.inr hq)).2
                  have hqw := (HG.out.domlt q (Or.inr hq)).2
                  exact (hg4.out.block q (Nat.lt_of_lt_of_le hql HTU.out.size) (fun e => by injection e with e; omega)).trans (HTU.out.block q hql (fun ht => HTD.out q ht (Or.inr hq)))
              · rw [List.map_append, List.map_singleton, HP.out]; exact hfin
      case done =>
        rintro Dd ys W hDd hys ⟨T, hI⟩ hK
        gi_wp2
        refine ⟨by simp, .inl ⟨_, _, rfl, run_takeDeferred hK, ?_⟩⟩
        refine ⟨_, results_none rfl _ _ _, rfl, T, fun q hq => (hI.lt q hq).imp_right (fun h => h.1), ?_, ?_⟩
        · have hj := hI.j
          rw [hys, way_all g HG.out.good] at hj
          refine hJk _ _ _ _ hj (fun q hq => World.putObj_heap_other (fun e => ?_)) (by simp)
          obtain ⟨o, h1, h2⟩ := hJc _ _ _ hj q hq
          rw [e, hK] at h1
          injection h1 with h1
          rw [← h1] at h2; cases h2
        · exact hI.tu.grown (grownBy_putObj' W Dd _) (fun r e => by injection e with e; have := hbelow.size; simp at hDd; omega)
      case stop =>
        rintro D c2 pre W _ _ hh _
        exact hh.elim
end Go.Proofs.Ytfphkbbgbfnhaaa
