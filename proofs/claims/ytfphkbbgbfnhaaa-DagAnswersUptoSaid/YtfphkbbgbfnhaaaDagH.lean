/- Texts put in order, and turned about; the closures' words for lists of names; the walks of Missing, Ancestors, Tips. -/
import Derived.Test.YtfphkbbgbfnhaaaDagG
namespace Go.Proofs.Ytfphkbbgbfnhaaa
open Go.RowKit Go.Shelf Go.Maps Go.Lib Go.Sort

theorem sv_enc (l : List Txt) : l.map encStr = sv l := rfl
/-- A row of one's own, put anew. -/
theorem put_own {w : World} {B g cap m : Nat} {l ys : List Txt} (hO : OwnS w B (.slice (some ⟨g, 0, none⟩) l.length cap) l) (hy : ys.length = l.length) (os : Array Obj) :
    OwnS (grow (putRow encStr (Sort.ahead w m) g 0 ys.toArray) os) B (.slice (some ⟨g, 0, none⟩) l.length cap) ys ∧ w.grownBy (grow (putRow encStr (Sort.ahead w m) g 0 ys.toArray) os) (some g) := by
  have hup := ownsRow_putRow (enc := encStr) (q := m) (k := l.length) (ys := ys) hO hy (Nat.le_refl _)
  rw [List.take_of_length_le (by rw [hy]; exact Nat.le_refl _), sv_enc] at hup
  have hs : (putRow encStr (Sort.ahead w m) g 0 ys.toArray).heap.size = w.heap.size := by simp [putRow, mapBlock, Sort.ahead]
  have hgr : ∀ k, k < w.heap.size → (grow (putRow encStr (Sort.ahead w m) g 0 ys.toArray) os).heap[k]? = (putRow encStr (Sort.ahead w m) g 0 ys.toArray).heap[k]? := fun k hk => heap_grow_old _ os (by rw [hs]; exact hk)
  refine ⟨?_, ⟨rfl, rfl, rfl, ?_, fun k hk hne => ?_⟩⟩
  · unfold OwnS
    rw [hy]
    exact own_below hup (fun k _ hk => hgr k (by rw [← hs]; exact hk))
  · show w.heap.size ≤ (grow _ os).heap.size
    simp [grow, putRow, mapBlock, Sort.ahead]
  · rw [hgr k hk]
    have : g ≠ k := fun e => hne (by rw [e])
    simp [putRow, mapBlock, Sort.ahead, Array.getElem?_modify, this]
theorem sortS_any (B : Nat) (v : Value) (l : List Txt) (w : World) (h : OwnS w B v l) (hl : l.length ≤ 4194304) :
    Calls Try.prog 35 #[v] w fun e w' => e = .returned (.tuple #[]) ∧ OwnS w' B v (l.mergeSort fun x y => decide (x ≤ y)) ∧ w.grownBy w' v.ownBlock := by
  by_cases h0 : l = []
  · subst h0
    obtain ⟨a, c, rfl⟩ := ownS_slice h
    refine (Try.slices_Sort_string_none a c w).mono fun e w' ⟨he, hw⟩ => ?_
    subst hw
    exact ⟨he, by simpa using h, kb_refl _ _⟩
  · have hne : v ≠ .slice none 0 0 := fun e => by
      subst e
      obtain ⟨a, c, e2⟩ := ownS_slice h
      injection e2 with _ e3 _
      exact h0 (List.length_eq_zero_iff.1 e3.symm)
    have hO : w.ownsRow B 9 1 v l.length (l.map encStr) := h
    obtain ⟨g, cap, hvv, hg1, hg2, hg3, hg4, hyl, hH⟩ := holds_of_ownsRow hO hne
    subst hvv
    refine (Try.slices_Sort_string g 0 cap l w hH hg2 (by omega)).mono fun e w' ⟨he, n, os, hw⟩ => ?_
    obtain ⟨p1, p2⟩ := put_own (m := n) (ys := l.mergeSort fun x y => decide (x ≤ y)) h (by simp) os
    rw [hw]
    exact ⟨he, p1, p2⟩
theorem revS_any (B : Nat) (v : Value) (l : List Txt) (w : World) (h : OwnS w B v l) (hl : l.length ≤ 4194304) :
    Calls Try.prog 38 #[v] w fun e w' => e = .returned (.tuple #[]) ∧ OwnS w' B v l.reverse ∧ w.grownBy w' v.ownBlock := by
  by_cases h0 : l = []
  · subst h0
    obtain ⟨a, c, rfl⟩ := ownS_slice h
    refine (Try.slices_Reverse_string_empty a c w).mono fun e w' ⟨he, hw⟩ => ?_
    subst hw
    exact ⟨he, by simpa using h, kb_refl _ _⟩
  · have hne : v ≠ .slice none 0 0 := fun e => by
      subst e
      obtain ⟨a, c, e2⟩ := ownS_slice h
      injection e2 with _ e3 _
      exact h0 (List.length_eq_zero_iff.1 e3.symm)
    have hO : w.ownsRow B 9 1 v l.length (l.map encStr) := h
    obtain ⟨g, cap, hvv, hg1, hg2, hg3, hg4, hyl, hH⟩ := holds_of_ownsRow hO hne
    subst hvv
    refine (Try.slices_Reverse_string g 0 cap l w hH (by omega)).mono fun e w' ⟨he, n, hw⟩ => ?_
    obtain ⟨p1, p2⟩ := put_own (m := n) (ys := l.reverse) h (by simp) #[]
    rw [grow_empty] at p1 p2
    rw [hw]
    exact ⟨he, p1, p2⟩
/-- What a collecting closure holds, with a row of marks that it reads (ba, cb), or none. -/
def JC (g : Gr) (lo bx : Nat) (sel : Nat × Bool → Bool) (ba cb n : Nat) (f : Nat → Bool) (pre : List (Nat × Bool)) (T : Nat → Prop) (W : World) : Prop :=
  ∃ T1, Acc lo bx ((pre.filter sel).map (fun x => nmOf g x.1)) T1 W ∧ Marks W ba cb n f ∧ (∃ o : Obj, W.heap[cb]? = some o ∧ o.isCells = true) ∧ (¬ T1 ba ∧ ¬ T1 cb) ∧ pre.length ≤ 4194304 ∧ lo ≤ W.heap.size ∧ ∀ k, T k ↔ (T1 k ∨ k = ba ∨ k = cb)
theorem JC.cells {g : Gr} {lo bx : Nat} {sel : Nat × Bool → Bool} {ba cb n : Nat} {f : Nat → Bool} (pre : List (Nat × Bool)) (T : Nat → Prop) (W : World) (h : JC g lo bx sel ba cb n f pre T W) : ∀ k, T k → ∃ o : Obj, W.heap[k]? = some o ∧ o.isCells = true := by
  obtain ⟨T1, h1, h2, h3, _, _, _, h4⟩ := h
  intro k hk
  rcases (h4 k).1 hk with hk | rfl | rfl
  · exact h1.cells k hk
  · exact cells_of_addr h2.c
  · exact h3
theorem JC.kept {g : Gr} {lo bx : Nat} {sel : Nat × Bool → Bool} {ba cb n : Nat} {f : Nat → Bool} (pre : List (Nat × Bool)) (T : Nat → Prop) (W W' : World) (h : JC g lo bx sel ba cb n f pre T W) (hk : ∀ k, T k → W'.heap[k]? = W.heap[k]?) (hs : W.heap.size ≤ W'.heap.size) : JC g lo bx sel ba cb n f pre T W' := by
  obtain ⟨T1, h1, h2, h3, h5, h6, h7, h4⟩ := h
  have e1 := hk ba ((h4 ba).2 (Or.inr (Or.inl rfl)))
  have e2 := hk cb ((h4 cb).2 (Or.inr (Or.inr rfl)))
  exact ⟨T1, h1.kept (fun k hk2 => hk k ((h4 k).2 (Or.inl hk2))), h2.kept e1 e2 hs, cells_kept h3 e2, h5, h6, by omega, h4⟩
/-- One name more. -/
theorem JC.push {g : Gr} {lo bx : Nat} {sel : Nat × Bool → Bool} {ba cb n : Nat} {f : Nat → Bool} {pre : List (Nat × Bool)} {T T1 T' : Nat → Prop} {W W' : World} {x : Nat × Bool} (hsel : sel x = true)
    (h2 : Marks W ba cb n f) (h3 : ∃ o : Obj, W.heap[cb]? = some o ∧ o.isCells = true) (h5 : ¬ T1 ba ∧ ¬ T1 cb) (h6 : pre.length < 65536) (h7 : lo ≤ W.heap.size) (h4 : ∀ k, T k ↔ (T1 k ∨ k = ba ∨ k = cb))
    (t1 : ∀ k, T' k → T1 k ∨ W.heap.size ≤ k) (t2 : Acc lo bx ((pre.filter sel).map (fun x => nmOf g x.1) ++ [nmOf g x.1]) T' W') (t3 : Turns T1 W W') :
    ∃ T2, (∀ k, T2 k → T k ∨ W.heap.size ≤ k) ∧ JC g lo bx sel ba cb n f (pre ++ [x]) T2 W' ∧ Turns T W W' := by
  have hba : ba < W.heap.size := World.block_lt_of_cell? _ _ h2.c
  have hcb : cb < W.heap.size := h2.r.lt
  have e1 := t3.block ba hba h5.1
  have e2 := t3.block cb hcb h5.2
  refine ⟨fun k => T' k ∨ k = ba ∨ k = cb, fun k hk => ?_, ⟨T', ?_, h2.kept e1 e2 t3.size, cells_kept h3 e2, ⟨fun h => ?_, fun h => ?_⟩, by simp; omega, Nat.le_trans h7 t3.size, fun k => Iff.rfl⟩, ⟨t3.os, t3.tape, t3.output, t3.size, fun k hk hT => t3.block k hk (fun h => hT ((h4 k).2 (Or.inl h)))⟩⟩
  · rcases hk with hk | hk
    · exact (t1 k hk).imp_left (fun h => (h4 k).2 (Or.inl h))
    · exact Or.inl ((h4 k).2 (Or.inr hk))
  · rw [List.filter_append, List.map_append]
    simpa [hsel] using t2
  · rcases t1 ba h with h | h
    · exact h5.1 h
    · omega
  · rcases t1 cb h with h | h
    · exact h5.2 h
    · omega
theorem JC.skip {g : Gr} {lo bx : Nat} {sel : Nat × Bool → Bool} {ba cb n : Nat} {f : Nat → Bool} {pre : List (Nat × Bool)} {T : Nat → Prop} {W : World} {x : Nat × Bool} (h : JC g lo bx sel ba cb n f pre T W) (hsel : sel x = false) (h6 : pre.length < 65536) (m : Nat) :
    ∃ T2, (∀ k, T2 k → T k ∨ W.heap.size ≤ k) ∧ JC g lo bx sel ba cb n f (pre ++ [x]) T2 (W.drewN m) ∧ Turns T W (W.drewN m) := by
  obtain ⟨T1, a, b⟩ := JC.kept pre T W (W.drewN m) h (fun _ _ => rfl) (Nat.le_refl _)
  refine ⟨T, fun k hk => Or.inl hk, ⟨T1, ?_, b.1, b.2.1, b.2.2.1, by simp; omega, b.2.2.2.2⟩, ⟨rfl, rfl, rfl, Nat.le_refl _, fun _ _ _ => rfl⟩⟩
  rw [List.filter_append]
  simpa [hsel] using a
theorem enters37 : ∀ args w, (callFunc 37 args).run Try.prog w = .ok (.enter 37 args) w := enters_of Try.func37 (by kernel_rfl) rfl
theorem enters33 : ∀ args w, (callFunc 33 args).run Try.prog w = .ok (.enter 33 args) w := enters_of Try.func33 (by kernel_rfl) rfl
theorem JC.missing {g : Gr} {lo bx : Nat} {ba cb : Nat} {f : Nat → Bool} {B : Nat} {S : Nat → Prop} {bg bm : Nat} {va : Value} {D : DataW Unit} {mb : Nat → Nat} (pre : List (Nat × Bool)) (T : Nat → Prop) (W : World) (p : Nat) (t : Bool) (hp : p < g.length) (hpl : pre.length < g.length)
    (h : JC g lo bx (fun x => !f x.1) ba cb g.length f pre T W) (hTd : ∀ k, T k → ¬ GrDom S va k) (hG : GrAt B S W bg bm va D mb g) :
    Calls Try.prog 37 (#[.pointer (some ⟨mb p, 0, none⟩), .bool t] ++ #[.pointer (some ⟨ba, 0, none⟩), .pointer (some ⟨bx, 0, none⟩)]) W fun e W' => e = .returned (.tuple #[]) ∧ ∃ T', (∀ k, T' k → T k ∨ W.heap.size ≤ k) ∧ JC g lo bx (fun x => !f x.1) ba cb g.length f (pre ++ [(p, t)]) T' W' ∧ Turns T W W' := by
  have h' := h
  obtain ⟨T1, h1, h2, h3, h5, h6, h7, h4⟩ := h
  obtain ⟨_, m0, m1, _, _⟩ := hG.mems p hp
  have hn := hG.len
  by_cases hf : f p = true
  · refine (missing1_no ba cb g.length (mb p) p f (.bool t) _ W h2 hp (by omega) m1 hf).mono ?_
    rintro e W' ⟨rfl, m, rfl⟩
    exact ⟨rfl, h'.skip (by simp [hf]) (by omega) m⟩
  · have hf2 : f p = false := by simpa using hf
    refine (missing1_yes ba cb g.length p f (.bool t) lo bx (mb p) (nmOf g p) _ T1 W h2 hp (by omega) m1 hf2 h1 (fun ht => hTd (mb p) ((h4 _).2 (Or.inl ht)) (Or.inl (hG.smb p hp))) m0 (by have := List.length_filter_le (fun x : Nat × Bool => !f x.1) pre; simp; omega) h7).mono ?_
    rintro e W' ⟨rfl, T', t1, t2, t3⟩
    exact ⟨rfl, JC.push (by simp [hf2]) h2 h3 h5 (by omega) h7 h4 t1 t2 t3⟩
theorem JC.bases {g : Gr} {lo bx : Nat} {ba cb : Nat} {f : Nat → Bool} {B : Nat} {S : Nat → Prop} {bg bm : Nat} {va : Value} {D : DataW Unit} {mb : Nat → Nat} (pre : List (Nat × Bool)) (T : Nat → Prop) (W : World) (p : Nat) (t : Bool) (hp : p < g.length) (hpl : pre.length < g.length)
    (h : JC g lo bx (fun x => f x.1) ba cb g.length f pre T W) (hTd : ∀ k, T k → ¬ GrDom S va k) (hG : GrAt B S W bg bm va D mb g) :
    Calls Try.prog 33 (#[.pointer (some ⟨mb p, 0, none⟩), .bool t] ++ #[.pointer (some ⟨ba, 0, none⟩), .pointer (some ⟨bx, 0, none⟩)]) W fun e W' => e = .returned (.tuple #[]) ∧ ∃ T', (∀ k, T' k → T k ∨ W.heap.size ≤ k) ∧ JC g lo bx (fun x => f x.1) ba cb g.length f (pre ++ [(p, t)]) T' W' ∧ Turns T W W' := by
  have h' := h
  obtain ⟨T1, h1, h2, h3, h5, h6, h7, h4⟩ := h
  obtain ⟨_, m0, m1, _, _⟩ := hG.mems p hp
  have hn := hG.len
  by_cases hf : f p = true
  · refine (bases1_yes ba cb g.length p f (.bool t) lo bx (mb p) (nmOf g p) _ T1 W h2 hp (by omega) m1 hf h1 (fun ht => hTd (mb p) ((h4 _).2 (Or.inl ht)) (Or.inl (hG.smb p hp))) m0 (by have := List.length_filter_le (fun x : Nat × Bool => f x.1) pre; simp; omega) h7).mono ?_
    rintro e W' ⟨rfl, T', t1, t2, t3⟩
    exact ⟨rfl, JC.push hf h2 h3 h5 (by omega) h7 h4 t1 t2 t3⟩
  · have hf2 : f p = false := by simpa using hf
    refine (bases1_no ba cb g.length (mb p) p f (.bool t) _ W h2 hp (by omega) m1 hf2).mono ?_
    rintro e W' ⟨rfl, m, rfl⟩
    exact ⟨rfl, h'.skip hf2 (by omega) m⟩
end Go.Proofs.Ytfphkbbgbfnhaaa
