/- A list of parts of one's own, whose last part's lists can be appended to. -/
import Derived.Test.YtjlpdoppnhcjoaaDoorWeavH
namespace Go.Proofs.YtjlpdoppnhcjoaaDoor
open Go.RowKit

/-- What a step does to memory beside the blocks of F: nothing. -/
structure Spares (F : Nat → Prop) (w w' : World) : Prop where
  os : w'.os = w.os
  tape : w'.tape = w.tape
  output : w'.output = w.output
  size : w.heap.size ≤ w'.heap.size
  block : ∀ k, k < w.heap.size → ¬ F k → w'.heap[k]? = w.heap[k]?
theorem Spares.refl (F : Nat → Prop) (w : World) : Spares F w w := ⟨rfl, rfl, rfl, Nat.le_refl _, fun _ _ _ => rfl⟩
theorem Spares.trans {F F1 : Nat → Prop} {w w1 w2 : World} (h : Spares F w w1) (k : Spares F1 w1 w2) (hf : ∀ j, j < w.heap.size → F1 j → F j) : Spares F w w2 :=
  ⟨k.os.trans h.os, k.tape.trans h.tape, k.output.trans h.output, Nat.le_trans h.size k.size, fun j hj hn => (k.block j (Nat.lt_of_lt_of_le hj h.size) (fun e => hn (hf j hj e))).trans (h.block j hj hn)⟩
theorem Spares.of_below {w w' : World} (h : Below w.heap.size w w') (F : Nat → Prop) : Spares F w w' := ⟨h.os, h.tape, h.output, h.size, fun k hk _ => h.block k hk⟩
theorem Spares.of_grew {w w' : World} {v v' : Value} {F : Nat → Prop} (h : Grew w w' v v') (hf : ∀ k, v.ownBlock = some k → F k) : Spares F w w' :=
  ⟨h.gb.os, h.gb.tape, h.gb.output, h.gb.size, fun k hk hn => h.gb.block k hk (fun e => hn (hf k e.symm))⟩
theorem Spares.of_set (F : Nat → Prop) (w : World) (g j : Nat) (v : Value) (hg : F g) : Spares F w (w.setCell ⟨g, j, none⟩ v) :=
  ⟨rfl, rfl, rfl, by simp, fun k _ hn => Below.heap_setCell _ _ _ _ (fun e => hn (by rw [e]; exact hg))⟩
theorem Spares.of_alloc (F : Nat → Prop) (w : World) (o : Obj) : Spares F w (w.alloc o) := ⟨rfl, rfl, rfl, by simp, fun k hk _ => Below.heap_alloc w o k hk⟩
theorem Spares.of_drewn (F : Nat → Prop) (w : World) (n : Nat) : Spares F w (w.drewN n) := Spares.of_below (drewn _ w n) F
theorem Spares.below {F : Nat → Prop} {w w' : World} {B : Nat} (h : Spares F w w') (hF : ∀ k, F k → B ≤ k) (hB : B ≤ w.heap.size) : Below B w w' :=
  ⟨h.os, h.tape, h.output, h.size, fun k hk => h.block k (Nat.lt_of_lt_of_le hk hB) (fun e => Nat.lt_irrefl _ (Nat.lt_of_lt_of_le hk (hF k e)))⟩
theorem Spares.mono {F F' : Nat → Prop} {w w' : World} (h : Spares F w w') (hf : ∀ k, F k → F' k) : Spares F' w w' := ⟨h.os, h.tape, h.output, h.size, fun k hk hn => h.block k hk (fun e => hn (hf k e))⟩
/-- The lists of a part, each a row of one's own, in blocks of G, none in another's. -/
structure PartO (G : Nat → Prop) (w : World) (B : Nat) (v1 v2 v3 : Value) (l1 l2 l3 : List (List UInt8)) : Prop where
  o1 : OwnS w B v1 l1
  o2 : OwnS w B v2 l2
  o3 : OwnS w B v3 l3
  g1 : ∀ k, v1.ownBlock = some k → G k
  g2 : ∀ k, v2.ownBlock = some k → G k
  g3 : ∀ k, v3.ownBlock = some k → G k
  d12 : ∀ k, v1.ownBlock = some k → v2.ownBlock ≠ some k
  d13 : ∀ k, v1.ownBlock = some k → v3.ownBlock ≠ some k
  d23 : ∀ k, v2.ownBlock = some k → v3.ownBlock ≠ some k
theorem ownS_kept {w w' : World} {B : Nat} {v : Value} {l : List (List UInt8)} (h : OwnS w B v l) (hk : ∀ k, v.ownBlock = some k → w'.heap[k]? = w.heap[k]?) : OwnS w' B v l := by
  refine ⟨h.1, ?_⟩
  rcases h.2 with h2 | ⟨g, cap, cur, e1, e2, e3, e4⟩
  · exact Or.inl h2
  · exact Or.inr ⟨g, cap, cur, e1, e2, (hk g (by rw [e1]; rfl)).trans e3, e4⟩
theorem row_kept {w w' : World} {B e sz n : Nat} {v : Value} {xs : List Value} (h : w.ownsRow B e sz v n xs) (hk : ∀ k, v.ownBlock = some k → w'.heap[k]? = w.heap[k]?) : w'.ownsRow B e sz v n xs := by
  refine ⟨h.1, ?_⟩
  rcases h.2 with h2 | ⟨g, cap, cur, e1, e2, e3, e4⟩
  · exact Or.inl h2
  · exact Or.inr ⟨g, cap, cur, e1, e2, (hk g (by rw [e1]; rfl)).trans e3, e4⟩
theorem ownS_lt {w : World} {B : Nat} {v : Value} {l : List (List UInt8)} (h : OwnS w B v l) (k : Nat) (hk : v.ownBlock = some k) : B ≤ k ∧ k < w.heap.size := World.ownsRow.lt h k hk
theorem ownS_strs {w : World} {B : Nat} {v : Value} {l : List (List UInt8)} (h : OwnS w B v l) : StrsC (fun k => v.ownBlock = some k) w v l := by
  refine ⟨h.1, sv_one l, ?_⟩
  rcases h.2 with ⟨rfl, e⟩ | ⟨g, cap, cur, rfl, hB, hg, hnc, hcm, _⟩
  · exact Or.inl ⟨e, none, 0, rfl⟩
  · refine Or.inr ⟨g, 0, cap, rfl, rfl, hnc, hcm, fun j u hj => ?_⟩
    have := World.ownsRow.cells h rfl j u hj
    rwa [add_pos] at this
theorem PartO.kept {G : Nat → Prop} {w w' : World} {B : Nat} {v1 v2 v3 : Value} {l1 l2 l3 : List (List UInt8)} (h : PartO G w B v1 v2 v3 l1 l2 l3) (hk : ∀ k, G k → w'.heap[k]? = w.heap[k]?) : PartO G w' B v1 v2 v3 l1 l2 l3 :=
  ⟨ownS_kept h.o1 (fun k e => hk k (h.g1 k e)), ownS_kept h.o2 (fun k e => hk k (h.g2 k e)), ownS_kept h.o3 (fun k e => hk k (h.g3 k e)), h.g1, h.g2, h.g3, h.d12, h.d13, h.d23⟩
/-- Parts of which the last one's lists are rows of one's own; F: all blocks; S: those of the others' lists. -/
structure LastO (F S : Nat → Prop) (w : World) (B : Nat) (v : Value) (css : List (List Value)) (ini : List (PartN (List UInt8))) (kd : Int) (v1 v2 v3 : Value) (l1 l2 l3 : List (List UInt8)) : Prop where
  own : w.ownsRow B 134 4 v (ini.length + 1) (css.flatten ++ [.int .i64 kd, v1, v2, v3])
  len : css.length = ini.length
  each : ∀ cs ∈ css, cs.length = 4
  one : ∀ u ∈ css.flatten, u.oneCell' = true
  reads : ∀ (j : Nat) (e : PartN (List UInt8)) (cs : List Value), ini[j]? = some e → css[j]? = some cs → partRel S w e cs
  sF : ∀ k, S k → F k
  sv : ∀ k, S k → v.ownBlock ≠ some k
  s1 : ∀ k, S k → v1.ownBlock ≠ some k
  s2 : ∀ k, S k → v2.ownBlock ≠ some k
  s3 : ∀ k, S k → v3.ownBlock ≠ some k
  vF : ∀ k, v.ownBlock = some k → F k
  e1 : ∀ k, v1.ownBlock = some k → v.ownBlock ≠ some k
  e2 : ∀ k, v2.ownBlock = some k → v.ownBlock ≠ some k
  e3 : ∀ k, v3.ownBlock = some k → v.ownBlock ≠ some k
  part : PartO F w B v1 v2 v3 l1 l2 l3
  lt : ∀ k, F k → B ≤ k ∧ k < w.heap.size
theorem LastO.kept {F S : Nat → Prop} {w w' : World} {B : Nat} {v : Value} {css : List (List Value)} {ini : List (PartN (List UInt8))} {kd : Int} {v1 v2 v3 : Value} {l1 l2 l3 : List (List UInt8)} (h : LastO F S w B v css ini kd v1 v2 v3 l1 l2 l3)
    (hs : w.heap.size ≤ w'.heap.size) (hk : ∀ k, F k → w'.heap[k]? = w.heap[k]?) : LastO F S w' B v css ini kd v1 v2 v3 l1 l2 l3 :=
  { h with
    own := row_kept h.own (fun k e => hk k (h.vF k e))
    reads := fun j e cs a b => part_keeps _ _ _ _ _ _ (h.reads j e cs a b) (fun k hS => ⟨hS, hk k (h.sF k hS)⟩)
    part := h.part.kept hk
    lt := fun k hF => ⟨(h.lt k hF).1, Nat.lt_of_lt_of_le (h.lt k hF).2 hs⟩ }
/-- The row's block. -/
theorem LastO.block {F S : Nat → Prop} {w : World} {B : Nat} {v : Value} {css : List (List Value)} {ini : List (PartN (List UInt8))} {kd : Int} {v1 v2 v3 : Value} {l1 l2 l3 : List (List UInt8)} (h : LastO F S w B v css ini kd v1 v2 v3 l1 l2 l3) :
    ∃ g c, v = .slice (some ⟨g, 0, none⟩) (ini.length + 1) c ∧ F g ∧ ini.length + 1 ≤ c ∧ c ≤ 9223372036854775807 := by
  rcases h.own.2 with ⟨_, e⟩ | ⟨g, cap, cur, rfl, hB, hg, hnc, hcm, _⟩
  · omega
  · unfold maxLen at hcm
    exact ⟨g, cap, rfl, h.vF g rfl, hnc, hcm⟩
theorem LastO.flat {F S : Nat → Prop} {w : World} {B : Nat} {v : Value} {css : List (List Value)} {ini : List (PartN (List UInt8))} {kd : Int} {v1 v2 v3 : Value} {l1 l2 l3 : List (List UInt8)} (h : LastO F S w B v css ini kd v1 v2 v3 l1 l2 l3) : css.flatten.length = ini.length * 4 := by rw [flatten_len css h.each, h.len]
theorem LastO.cells {F S : Nat → Prop} {w : World} {B : Nat} {v : Value} {css : List (List Value)} {ini : List (PartN (List UInt8))} {kd : Int} {v1 v2 v3 : Value} {l1 l2 l3 : List (List UInt8)} (h : LastO F S w B v css ini kd v1 v2 v3 l1 l2 l3) {g : Nat} (hg : v.ownBlock = some g) :
    w.cell? ⟨g, ini.length * 4, none⟩ = some (.int .i64 kd) ∧ w.cell? ⟨g, ini.length * 4 + 1, none⟩ = some v1 ∧ w.cell? ⟨g, ini.length * 4 + 2, none⟩ = some v2 ∧ w.cell? ⟨g, ini.length * 4 + 3, none⟩ = some v3 := by
  obtain ⟨g', c, rfl, _, _, _⟩ := h.block
  have hgg : g' = g := by simpa [Value.ownBlock] using hg
  subst hgg
  have hf := h.flat
  have at_ : ∀ j x, [Value.int .i64 kd, v1, v2, v3][j]? = some x → w.cell? ⟨g', ini.length * 4 + j, none⟩ = some x := fun j x hx => by
    have hj : j < 4 := (List.getElem?_eq_some_iff.1 hx).1
    rw [h.own.cellAt _ (by omega), List.getElem?_append_right (by omega), hf, Nat.add_sub_cancel_left]; exact hx
  exact ⟨at_ 0 _ rfl, at_ 1 _ rfl, at_ 2 _ rfl, at_ 3 _ rfl⟩
theorem LastO.frozen {F S : Nat → Prop} {w : World} {B : Nat} {v : Value} {css : List (List Value)} {ini : List (PartN (List UInt8))} {kd : Int} {v1 v2 v3 : Value} {l1 l2 l3 : List (List UInt8)} (h : LastO F S w B v css ini kd v1 v2 v3 l1 l2 l3) {g : Nat} (hg : v.ownBlock = some g) (j : Nat) : w.frozen? ⟨g, j, none⟩ = false := by
  obtain ⟨g', c, rfl, _, _, _⟩ := h.block
  have hgg : g' = g := by simpa [Value.ownBlock] using hg
  subst hgg
  exact h.own.frozenAt _
/-- List 1 of the last part has more behind it. -/
theorem LastO.app1 {F S : Nat → Prop} {w : World} {B : Nat} {v : Value} {css : List (List Value)} {ini : List (PartN (List UInt8))} {kd : Int} {v1 v2 v3 : Value} {l1 l2 l3 : List (List UInt8)} (h : LastO F S w B v css ini kd v1 v2 v3 l1 l2 l3) {w1 : World} {u : Value} {r : List (List UInt8)} {g : Nat} (hg : v.ownBlock = some g) (ho : OwnS w1 B u (l1 ++ r)) (gr : Grew w w1 v1 u) :
    LastO (fun k => F k ∨ (w.heap.size ≤ k ∧ k < w1.heap.size)) S (w1.setCell ⟨g, ini.length * 4 + 1, none⟩ u) B v css ini kd u v2 v3 (l1 ++ r) l2 l3 := by
  have hgl : g < w.heap.size := (h.lt g (h.vF g hg)).2
  have off : ∀ k, k ≠ g → (w1.setCell ⟨g, ini.length * 4 + 1, none⟩ u).heap[k]? = w1.heap[k]? := fun k hk => Below.heap_setCell _ _ _ _ (fun e => hk (by rw [e]))
  have key : ∀ k, k < w.heap.size → v1.ownBlock ≠ some k → k ≠ g → (w1.setCell ⟨g, ini.length * 4 + 1, none⟩ u).heap[k]? = w.heap[k]? := fun k h1 h2 h3 => (off k h3).trans (gr.gb.block k h1 (fun e => h2 e.symm))
  have uG : u.ownBlock ≠ some g := fun e => (gr.own g e).elim (fun e2 => h.e1 g e2 hg) (fun e2 => absurd hgl (Nat.not_lt.2 e2))
  have uF : ∀ k, u.ownBlock = some k → F k ∨ (w.heap.size ≤ k ∧ k < w1.heap.size) := fun k e => (gr.own k e).elim (fun e2 => Or.inl (h.part.g1 k e2)) (fun e2 => Or.inr ⟨e2, (ownS_lt ho k e).2⟩)
  have hsz : (w1.setCell ⟨g, ini.length * 4 + 1, none⟩ u).heap.size = w1.heap.size := by simp
  have hs1 := gr.size
  have hrow : w1.ownsRow B 134 4 v (ini.length + 1) (css.flatten ++ [.int .i64 kd, v1, v2, v3]) := row_kept h.own (fun k e => gr.gb.block k (h.lt k (h.vF k e)).2 (fun e2 => h.e1 k e2.symm e))
  have hst : (w1.setCell ⟨g, ini.length * 4 + 1, none⟩ u).ownsRow B 134 4 v (ini.length + 1) (css.flatten ++ [.int .i64 kd, u, v2, v3]) := by
    obtain ⟨g', c, rfl, _, _, _⟩ := h.block
    have hgg : g' = g := by simpa [Value.ownBlock] using hg
    subst hgg
    have := (hrow.stored (ini.length * 4 + 1) u).1
    rw [List.set_append_right _ _ (by rw [h.flat]; omega), h.flat, Nat.add_sub_cancel_left] at this
    exact this
  exact { h with
    own := hst
    reads := fun j e cs a b => part_keeps _ _ _ _ _ _ (h.reads j e cs a b) (fun k hS => ⟨hS, key k (h.lt k (h.sF k hS)).2 (h.s1 k hS) (fun e2 => h.sv k hS (by rw [hg, e2]))⟩)
    sF := fun k hS => Or.inl (h.sF k hS)
    vF := fun k e => Or.inl (h.vF k e)
    s1 := fun k hS e => (gr.own k e).elim (h.s1 k hS) (fun e2 => absurd (h.lt k (h.sF k hS)).2 (Nat.not_lt.2 e2))
    e1 := fun k e e3 => by have := Option.some.inj (hg.symm.trans e3); subst this; exact uG e
    part := ⟨ownS_kept ho (fun k e => off k (fun e2 => by subst e2; exact uG e)), ownS_kept h.part.o2 (fun k e => key k (ownS_lt h.part.o2 k e).2 (fun e2 => h.part.d12 k e2 e) (fun e2 => h.e2 k e (by rw [hg, e2]))), ownS_kept h.part.o3 (fun k e => key k (ownS_lt h.part.o3 k e).2 (fun e2 => h.part.d13 k e2 e) (fun e2 => h.e3 k e (by rw [hg, e2]))), uF, fun k e => Or.inl (h.part.g2 k e), fun k e => Or.inl (h.part.g3 k e), fun k e => (gr.own k e).elim (h.part.d12 k) (fun e2 e3 => absurd (ownS_lt h.part.o2 k e3).2 (Nat.not_lt.2 e2)), fun k e => (gr.own k e).elim (h.part.d13 k) (fun e2 e3 => absurd (ownS_lt h.part.o3 k e3).2 (Nat.not_lt.2 e2)), h.part.d23⟩
    lt := fun k hF => by
      rw [hsz]
      rcases hF with hF | hF
      · have := h.lt k hF; omega
      · have := (h.lt g (h.vF g hg)).1; omega }
/-- List 2 of the last part has more behind it. -/
theorem LastO.app2 {F S : Nat → Prop} {w : World} {B : Nat} {v : Value} {css : List (List Value)} {ini : List (PartN (List UInt8))} {kd : Int} {v1 v2 v3 : Value} {l1 l2 l3 : List (List UInt8)} (h : LastO F S w B v css ini kd v1 v2 v3 l1 l2 l3) {w1 : World} {u : Value} {r : List (List UInt8)} {g : Nat} (hg : v.ownBlock = some g) (ho : OwnS w1 B u (l2 ++ r)) (gr : Grew w w1 v2 u) :
    LastO (fun k => F k ∨ (w.heap.size ≤ k ∧ k < w1.heap.size)) S (w1.setCell ⟨g, ini.length * 4 + 2, none⟩ u) B v css ini kd v1 u v3 l1 (l2 ++ r) l3 := by
  have hgl : g < w.heap.size := (h.lt g (h.vF g hg)).2
  have off : ∀ k, k ≠ g → (w1.setCell ⟨g, ini.length * 4 + 2, none⟩ u).heap[k]? = w1.heap[k]? := fun k hk => Below.heap_setCell _ _ _ _ (fun e => hk (by rw [e]))
  have key : ∀ k, k < w.heap.size → v2.ownBlock ≠ some k → k ≠ g → (w1.setCell ⟨g, ini.length * 4 + 2, none⟩ u).heap[k]? = w.heap[k]? := fun k h1 h2 h3 => (off k h3).trans (gr.gb.block k h1 (fun e => h2 e.symm))
  have uG : u.ownBlock ≠ some g := fun e => (gr.own g e).elim (fun e2 => h.e2 g e2 hg) (fun e2 => absurd hgl (Nat.not_lt.2 e2))
  have uF : ∀ k, u.ownBlock = some k → F k ∨ (w.heap.size ≤ k ∧ k < w1.heap.size) := fun k e => (gr.own k e).elim (fun e2 => Or.inl (h.part.g2 k e2)) (fun e2 => Or.inr ⟨e2, (ownS_lt ho k e).2⟩)
  have hsz : (w1.setCell ⟨g, ini.length * 4 + 2, none⟩ u).heap.size = w1.heap.size := by simp
  have hs1 := gr.size
  have hrow : w1.ownsRow B 134 4 v (ini.length + 1) (css.flatten ++ [.int .i64 kd, v1, v2, v3]) := row_kept h.own (fun k e => gr.gb.block k (h.lt k (h.vF k e)).2 (fun e2 => h.e2 k e2.symm e))
  have hst : (w1.setCell ⟨g, ini.length * 4 + 2, none⟩ u).ownsRow B 134 4 v (ini.length + 1) (css.flatten ++ [.int .i64 kd, v1, u, v3]) := by
    obtain ⟨g', c, rfl, _, _, _⟩ := h.block
    have hgg : g' = g := by simpa [Value.ownBlock] using hg
    subst hgg
    have := (hrow.stored (ini.length * 4 + 2) u).1
    rw [List.set_append_right _ _ (by rw [h.flat]; omega), h.flat, Nat.add_sub_cancel_left] at this
    exact this
  exact { h with
    own := hst
    reads := fun j e cs a b => part_keeps _ _ _ _ _ _ (h.reads j e cs a b) (fun k hS => ⟨hS, key k (h.lt k (h.sF k hS)).2 (h.s2 k hS) (fun e2 => h.sv k hS (by rw [hg, e2]))⟩)
    sF := fun k hS => Or.inl (h.sF k hS)
    vF := fun k e => Or.inl (h.vF k e)
    s2 := fun k hS e => (gr.own k e).elim (h.s2 k hS) (fun e2 => absurd (h.lt k (h.sF k hS)).2 (Nat.not_lt.2 e2))
    e2 := fun k e e3 => by have := Option.some.inj (hg.symm.trans e3); subst this; exact uG e
    part := ⟨ownS_kept h.part.o1 (fun k e => key k (ownS_lt h.part.o1 k e).2 (fun e2 => h.part.d12 k e e2) (fun e2 => h.e1 k e (by rw [hg, e2]))), ownS_kept ho (fun k e => off k (fun e2 => by subst e2; exact uG e)), ownS_kept h.part.o3 (fun k e => key k (ownS_lt h.part.o3 k e).2 (fun e2 => h.part.d23 k e2 e) (fun e2 => h.e3 k e (by rw [hg, e2]))), fun k e => Or.inl (h.part.g1 k e), uF, fun k e => Or.inl (h.part.g3 k e), fun k e e3 => (gr.own k e3).elim (h.part.d12 k e) (fun e2 => absurd (ownS_lt h.part.o1 k e).2 (Nat.not_lt.2 e2)), h.part.d13, fun k e => (gr.own k e).elim (h.part.d23 k) (fun e2 e3 => absurd (ownS_lt h.part.o3 k e3).2 (Nat.not_lt.2 e2))⟩
    lt := fun k hF => by
      rw [hsz]
      rcases hF with hF | hF
      · have := h.lt k hF; omega
      · have := (h.lt g (h.vF g hg)).1; omega }
/-- List 3 of the last part has more behind it. -/
theorem LastO.app3 {F S : Nat → Prop} {w : World} {B : Nat} {v : Value} {css : List (List Value)} {ini : List (PartN (List UInt8))} {kd : Int} {v1 v2 v3 : Value} {l1 l2 l3 : List (List UInt8)} (h : LastO F S w B v css ini kd v1 v2 v3 l1 l2 l3) {w1 : World} {u : Value} {r : List (List UInt8)} {g : Nat} (hg : v.ownBlock = some g) (ho : OwnS w1 B u (l3 ++ r)) (gr : Grew w w1 v3 u) :
    LastO (fun k => F k ∨ (w.heap.size ≤ k ∧ k < w1.heap.size)) S (w1.setCell ⟨g, ini.length * 4 + 3, none⟩ u) B v css ini kd v1 v2 u l1 l2 (l3 ++ r) := by
  have hgl : g < w.heap.size := (h.lt g (h.vF g hg)).2
  have off : ∀ k, k ≠ g → (w1.setCell ⟨g, ini.length * 4 + 3, none⟩ u).heap[k]? = w1.heap[k]? := fun k hk => Below.heap_setCell _ _ _ _ (fun e => hk (by rw [e]))
  have key : ∀ k, k < w.heap.size → v3.ownBlock ≠ some k → k ≠ g → (w1.setCell ⟨g, ini.length * 4 + 3, none⟩ u).heap[k]? = w.heap[k]? := fun k h1 h2 h3 => (off k h3).trans (gr.gb.block k h1 (fun e => h2 e.symm))
  have uG : u.ownBlock ≠ some g := fun e => (gr.own g e).elim (fun e2 => h.e3 g e2 hg) (fun e2 => absurd hgl (Nat.not_lt.2 e2))
  have uF : ∀ k, u.ownBlock = some k → F k ∨ (w.heap.size ≤ k ∧ k < w1.heap.size) := fun k e => (gr.own k e).elim (fun e2 => Or.inl (h.part.g3 k e2)) (fun e2 => Or.inr ⟨e2, (ownS_lt ho k e).2⟩)
  have hsz : (w1.setCell ⟨g, ini.length * 4 + 3, none⟩ u).heap.size = w1.heap.size := by simp
  have hs1 := gr.size
  have hrow : w1.ownsRow B 134 4 v (ini.length + 1) (css.flatten ++ [.int .i64 kd, v1, v2, v3]) := row_kept h.own (fun k e => gr.gb.block k (h.lt k (h.vF k e)).2 (fun e2 => h.e3 k e2.symm e))
  have hst : (w1.setCell ⟨g, ini.length * 4 + 3, none⟩ u).ownsRow B 134 4 v (ini.length + 1) (css.flatten ++ [.int .i64 kd, v1, v2, u]) := by
    obtain ⟨g', c, rfl, _, _, _⟩ := h.block
    have hgg : g' = g := by simpa [Value.ownBlock] using hg
    subst hgg
    have := (hrow.stored (ini.length * 4 + 3) u).1
    rw [List.set_append_right _ _ (by rw [h.flat]; omega), h.flat, Nat.add_sub_cancel_left] at this
    exact this
  exact { h with
    own := hst
    reads := fun j e cs a b => part_keeps _ _ _ _ _ _ (h.reads j e cs a b) (fun k hS => ⟨hS, key k (h.lt k (h.sF k hS)).2 (h.s3 k hS) (fun e2 => h.sv k hS (by rw [hg, e2]))⟩)
    sF := fun k hS => Or.inl (h.sF k hS)
    vF := fun k e => Or.inl (h.vF k e)
    s3 := fun k hS e => (gr.own k e).elim (h.s3 k hS) (fun e2 => absurd (h.lt k (h.sF k hS)).2 (Nat.not_lt.2 e2))
    e3 := fun k e e3 => by have := Option.some.inj (hg.symm.trans e3); subst this; exact uG e
    part := ⟨ownS_kept h.part.o1 (fun k e => key k (ownS_lt h.part.o1 k e).2 (fun e2 => h.part.d13 k e e2) (fun e2 => h.e1 k e (by rw [hg, e2]))), ownS_kept h.part.o2 (fun k e => key k (ownS_lt h.part.o2 k e).2 (fun e2 => h.part.d23 k e e2) (fun e2 => h.e2 k e (by rw [hg, e2]))), ownS_kept ho (fun k e => off k (fun e2 => by subst e2; exact uG e)), fun k e => Or.inl (h.part.g1 k e), fun k e => Or.inl (h.part.g2 k e), uF, h.part.d12, fun k e e3 => (gr.own k e3).elim (h.part.d13 k e) (fun e2 => absurd (ownS_lt h.part.o1 k e).2 (Nat.not_lt.2 e2)), fun k e e3 => (gr.own k e3).elim (h.part.d23 k e) (fun e2 => absurd (ownS_lt h.part.o2 k e).2 (Nat.not_lt.2 e2))⟩
    lt := fun k hF => by
      rw [hsz]
      rcases hF with hF | hF
      · have := h.lt k hF; omega
      · have := (h.lt g (h.vF g hg)).1; omega }
/-- A list of parts of one's own: F: its blocks. -/
def PartsO (F : Nat → Prop) (w : World) (B : Nat) (v : Value) (ps : List (PartN (List UInt8))) : Prop :=
  (∀ k, F k → B ≤ k ∧ k < w.heap.size) ∧ ((ps = [] ∧ v = .slice none 0 0) ∨ ∃ S css ini q v1 v2 v3, ps = ini ++ [q] ∧ LastO F S w B v css ini q.kind v1 v2 v3 q.base q.ours q.theirs)
theorem PartsO.nil (w : World) (B : Nat) : PartsO (fun _ => False) w B (.slice none 0 0) [] := ⟨fun _ h => h.elim, Or.inl ⟨rfl, rfl⟩⟩
theorem PartsO.kept {F : Nat → Prop} {w w' : World} {B : Nat} {v : Value} {ps : List (PartN (List UInt8))} (h : PartsO F w B v ps) (hs : w.heap.size ≤ w'.heap.size) (hk : ∀ k, F k → w'.heap[k]? = w.heap[k]?) : PartsO F w' B v ps := by
  refine ⟨fun k hF => ⟨(h.1 k hF).1, Nat.lt_of_lt_of_le (h.1 k hF).2 hs⟩, ?_⟩
  rcases h.2 with h2 | ⟨S, css, ini, q, v1, v2, v3, h2, h3⟩
  · exact Or.inl h2
  · exact Or.inr ⟨S, css, ini, q, v1, v2, v3, h2, h3.kept hs hk⟩
theorem PartsO.shape {F : Nat → Prop} {w : World} {B : Nat} {v : Value} {ps : List (PartN (List UInt8))} (h : PartsO F w B v ps) : ∃ a c, v = .slice a ps.length c := by
  rcases h.2 with ⟨rfl, rfl⟩ | ⟨S, css, ini, q, v1, v2, v3, rfl, h3⟩
  · exact ⟨none, 0, rfl⟩
  · obtain ⟨g, c, rfl, _⟩ := h3.block
    exact ⟨some ⟨g, 0, none⟩, c, by simp⟩
/-- The row's cells, and one part more. -/
theorem PartsO.push {F : Nat → Prop} {w : World} {B : Nat} {v : Value} {ps : List (PartN (List UInt8))} (h : PartsO F w B v ps) :
    ∃ cells, w.ownsRow B 134 4 v ps.length cells ∧ (∀ k, v.ownBlock = some k → F k) ∧
      ∀ (w4 : World) (v' : Value) (G : Nat → Prop) (u1 u2 u3 : Value) (p : PartN (List UInt8)), PartO G w B u1 u2 u3 p.base p.ours p.theirs → (∀ k, F k → ¬ G k) → (∀ k, G k → B ≤ k ∧ k < w.heap.size) → Grew w w4 v v' →
        w4.ownsRow B 134 4 v' (ps.length + 1) (cells ++ [.int .i64 p.kind, u1, u2, u3]) → B ≤ w.heap.size → PartsO (fun k => F k ∨ G k ∨ (w.heap.size ≤ k ∧ k < w4.heap.size)) w4 B v' (ps ++ [p]) := by
  have lt4 : ∀ (w4 : World) (v' : Value) (G : Nat → Prop), (∀ k, G k → B ≤ k ∧ k < w.heap.size) → Grew w w4 v v' → B ≤ w.heap.size → ∀ k, (F k ∨ G k ∨ (w.heap.size ≤ k ∧ k < w4.heap.size)) → B ≤ k ∧ k < w4.heap.size := by
    intro w4 v' G hG gr hB k hk
    have := gr.size
    rcases hk with hk | hk | hk
    · have := h.1 k hk; omega
    · have := hG k hk; omega
    · omega
  rcases h.2 with ⟨rfl, rfl⟩ | ⟨S, css, ini, q, v1, v2, v3, rfl, hl⟩
  · refine ⟨[], World.ownsRow_nil _ _ _ _, fun k e => by simp [Value.ownBlock] at e, fun w4 v' G u1 u2 u3 p hp hFG hG gr hown hB => ⟨lt4 w4 v' G hG gr hB, Or.inr ⟨fun _ => False, [], [], p, u1, u2, u3, rfl, ?_⟩⟩⟩
    have keep : ∀ k, G k → w4.heap[k]? = w.heap[k]? := fun k hk => gr.gb.block k (hG k hk).2 (fun e => by simp [Value.ownBlock] at e)
    have vnew : ∀ k, v'.ownBlock = some k → w.heap.size ≤ k := fun k e => (gr.own k e).elim (fun e2 => by simp [Value.ownBlock] at e2) id
    have hk := hp.kept keep
    exact { own := by simpa using hown, len := rfl, each := fun _ hc => (by cases hc), one := fun _ hc => (by cases hc), reads := fun j e cs a _ => (by simp at a), sF := fun _ hS => hS.elim, sv := fun _ hS => hS.elim, s1 := fun _ hS => hS.elim, s2 := fun _ hS => hS.elim, s3 := fun _ hS => hS.elim,
            vF := fun k e => Or.inr (Or.inr ⟨vnew k e, (World.ownsRow.lt hown k e).2⟩)
            e1 := fun k e e2 => absurd (hG k (hp.g1 k e)).2 (Nat.not_lt.2 (vnew k e2)), e2 := fun k e e2 => absurd (hG k (hp.g2 k e)).2 (Nat.not_lt.2 (vnew k e2)), e3 := fun k e e2 => absurd (hG k (hp.g3 k e)).2 (Nat.not_lt.2 (vnew k e2))
            part := ⟨hk.o1, hk.o2, hk.o3, fun k e => Or.inr (Or.inl (hk.g1 k e)), fun k e => Or.inr (Or.inl (hk.g2 k e)), fun k e => Or.inr (Or.inl (hk.g3 k e)), hk.d12, hk.d13, hk.d23⟩
            lt := lt4 w4 v' G hG gr hB }
  · refine ⟨css.flatten ++ [.int .i64 q.kind, v1, v2, v3], by simpa using hl.own, hl.vF, fun w4 v' G u1 u2 u3 p hp hFG hG gr hown hB => ⟨lt4 w4 v' G hG gr hB, Or.inr ⟨fun k => S k ∨ v1.ownBlock = some k ∨ v2.ownBlock = some k ∨ v3.ownBlock = some k, css ++ [[.int .i64 q.kind, v1, v2, v3]], ini ++ [q], p, u1, u2, u3, rfl, ?_⟩⟩⟩
    have gk : ∀ k, G k → w4.heap[k]? = w.heap[k]? := fun k hk => gr.gb.block k (hG k hk).2 (fun e => hFG k (hl.vF k e.symm) hk)
    have vk : ∀ k, v'.ownBlock = some k → v.ownBlock = some k ∨ w.heap.size ≤ k := gr.own
    have fk : ∀ k, F k → v.ownBlock ≠ some k → w4.heap[k]? = w.heap[k]? := fun k hF hn => gr.gb.block k (hl.lt k hF).2 (fun e => hn e.symm)
    have hk := hp.kept gk
    have oldF : ∀ k, (S k ∨ v1.ownBlock = some k ∨ v2.ownBlock = some k ∨ v3.ownBlock = some k) → F k ∧ v.ownBlock ≠ some k := by
      rintro k (e | e | e | e)
      · exact ⟨hl.sF k e, hl.sv k e⟩
      · exact ⟨hl.part.g1 k e, hl.e1 k e⟩
      · exact ⟨hl.part.g2 k e, hl.e2 k e⟩
      · exact ⟨hl.part.g3 k e, hl.e3 k e⟩
    have nv : ∀ k, F k → v.ownBlock ≠ some k → v'.ownBlock ≠ some k := fun k hF hn e => (vk k e).elim hn (fun e2 => absurd (hl.lt k hF).2 (Nat.not_lt.2 e2))
    have ng : ∀ k, G k → v'.ownBlock ≠ some k := fun k hk e => (vk k e).elim (fun e2 => hFG k (hl.vF k e2) hk) (fun e2 => absurd (hG k hk).2 (Nat.not_lt.2 e2))
    exact { own := by simpa using hown, len := by simp [hl.len]
            each := fun cs hc => by
              rcases List.mem_append.1 hc with hc | hc
              · exact hl.each cs hc
              · rw [List.mem_singleton] at hc; rw [hc]; rfl
            one := fun x hx => by
              rw [List.flatten_append] at hx
              rcases List.mem_append.1 hx with hx | hx
              · exact hl.one x hx
              · obtain ⟨a1, c1, r1⟩ := ownS_slice hl.part.o1
                obtain ⟨a2, c2, r2⟩ := ownS_slice hl.part.o2
                obtain ⟨a3, c3, r3⟩ := ownS_slice hl.part.o3
                simp at hx
                rcases hx with rfl | rfl | rfl | rfl
                · rfl
                · rw [r1]; rfl
                · rw [r2]; rfl
                · rw [r3]; rfl
            reads := fun j e cs he hc => by
              by_cases hj : j < ini.length
              · rw [List.getElem?_append_left hj] at he
                rw [List.getElem?_append_left (by rw [hl.len]; exact hj)] at hc
                exact part_keeps _ _ _ _ _ _ (hl.reads j e cs he hc) (fun k hS => ⟨Or.inl hS, fk k (hl.sF k hS) (hl.sv k hS)⟩)
              · have hj2 : j = ini.length := by
                  have := (List.getElem?_eq_some_iff.1 he).1
                  simp at this; omega
                subst hj2
                rw [List.getElem?_append_right (Nat.le_refl _), Nat.sub_self] at he
                rw [← hl.len, List.getElem?_append_right (Nat.le_refl _), Nat.sub_self] at hc
                simp at he hc
                subst he hc
                refine ⟨v1, v2, v3, rfl, (ownS_strs hl.part.o1).kept (fun k e => ⟨Or.inr (Or.inl e), ?_⟩), (ownS_strs hl.part.o2).kept (fun k e => ⟨Or.inr (Or.inr (Or.inl e)), ?_⟩), (ownS_strs hl.part.o3).kept (fun k e => ⟨Or.inr (Or.inr (Or.inr e)), ?_⟩)⟩
                · exact fk k (hl.part.g1 k e) (hl.e1 k e)
                · exact fk k (hl.part.g2 k e) (hl.e2 k e)
                · exact fk k (hl.part.g3 k e) (hl.e3 k e)
            sF := fun k hS => Or.inl (oldF k hS).1
            sv := fun k hS => nv k (oldF k hS).1 (oldF k hS).2
            s1 := fun k hS e => hFG k (oldF k hS).1 (hp.g1 k e)
            s2 := fun k hS e => hFG k (oldF k hS).1 (hp.g2 k e)
            s3 := fun k hS e => hFG k (oldF k hS).1 (hp.g3 k e)
            vF := fun k e => (vk k e).elim (fun e2 => Or.inl (hl.vF k e2)) (fun e2 => Or.inr (Or.inr ⟨e2, (World.ownsRow.lt hown k e).2⟩))
            e1 := fun k e => ng k (hp.g1 k e), e2 := fun k e => ng k (hp.g2 k e), e3 := fun k e => ng k (hp.g3 k e)
            part := ⟨hk.o1, hk.o2, hk.o3, fun k e => Or.inr (Or.inl (hk.g1 k e)), fun k e => Or.inr (Or.inl (hk.g2 k e)), fun k e => Or.inr (Or.inl (hk.g3 k e)), hk.d12, hk.d13, hk.d23⟩
            lt := lt4 w4 v' G hG gr hB }
/-- Read. -/
theorem PartsO.rows {F : Nat → Prop} {w : World} {B : Nat} {v : Value} {ps : List (PartN (List UInt8))} (h : PartsO F w B v ps) : PartsC F w v ps := by
  rcases h.2 with ⟨rfl, rfl⟩ | ⟨S, css, ini, q, v1, v2, v3, rfl, hl⟩
  · exact ⟨[], rfl, fun _ hc => (by cases hc), CellsC.nil _ _ _ _ _, fun j e cs a _ => (by simp at a)⟩
  · obtain ⟨a1, c1, r1⟩ := ownS_slice hl.part.o1
    obtain ⟨a2, c2, r2⟩ := ownS_slice hl.part.o2
    obtain ⟨a3, c3, r3⟩ := ownS_slice hl.part.o3
    have hone : ∀ u ∈ css.flatten ++ [.int .i64 q.kind, v1, v2, v3], u.oneCell' = true := by
      intro x hx
      rcases List.mem_append.1 hx with hx | hx
      · exact hl.one x hx
      · simp at hx
        rcases hx with rfl | rfl | rfl | rfl
        · rfl
        · rw [r1]; rfl
        · rw [r2]; rfl
        · rw [r3]; rfl
    obtain ⟨g, c, e, hFg, hc1, hc2⟩ := hl.block
    have hcl : CellsC F w v (ini ++ [q]).length 4 (css ++ [[.int .i64 q.kind, v1, v2, v3]]).flatten := by
      have hlen := hl.own.1
      refine ⟨by simpa using hlen, by simpa using hone, Or.inr ⟨g, 0, c, by rw [e]; simp, hFg, by simpa using hc1, by unfold maxLen; exact hc2, fun j x hx => ?_⟩⟩
      have := World.ownsRow.cells hl.own (g := g) (by rw [e]; rfl) j x (by simpa using hx)
      rwa [add_pos] at this
    refine ⟨css ++ [[.int .i64 q.kind, v1, v2, v3]], by simp [hl.len], fun cs hc => ?_, hcl, fun j e cs he hc => ?_⟩
    · rcases List.mem_append.1 hc with hc | hc
      · exact hl.each cs hc
      · rw [List.mem_singleton] at hc; rw [hc]; rfl
    · by_cases hj : j < ini.length
      · rw [List.getElem?_append_left hj] at he
        rw [List.getElem?_append_left (by rw [hl.len]; exact hj)] at hc
        exact part_keeps _ _ _ _ _ _ (hl.reads j e cs he hc) (fun k hS => ⟨hl.sF k hS, rfl⟩)
      · have hj2 : j = ini.length := by
          have := (List.getElem?_eq_some_iff.1 he).1
          simp at this; omega
        subst hj2
        rw [List.getElem?_append_right (Nat.le_refl _), Nat.sub_self] at he
        rw [← hl.len, List.getElem?_append_right (Nat.le_refl _), Nat.sub_self] at hc
        simp at he hc
        subst he hc
        exact ⟨v1, v2, v3, rfl, (ownS_strs hl.part.o1).kept (fun k e => ⟨hl.part.g1 k e, rfl⟩), (ownS_strs hl.part.o2).kept (fun k e => ⟨hl.part.g2 k e, rfl⟩), (ownS_strs hl.part.o3).kept (fun k e => ⟨hl.part.g3 k e, rfl⟩)⟩
end Go.Proofs.YtjlpdoppnhcjoaaDoor
