/- The closures that the walk is given: names collected, marks set, a node looked for. -/
import Derived.Test.YtfphkbbgbfnhaaaDagE
import Derived.Test.YtfphkbbgbfnhaaaStep
import Derived.Test.YtfphkbbgbfnhaaaShelf
import Derived.Lib.OwnBridge
import Derived.LaidEqlPtr
namespace Go.Proofs.Ytfphkbbgbfnhaaa
open Go.RowKit Go.Shelf Go.Maps Go.Lib Go.Sort

/-- A variable that holds texts of one's own: its block, and the row's. -/
structure Acc (lo bx : Nat) (out : List Txt) (T : Nat → Prop) (W : World) : Prop where
  ex : ∃ v, W.heap[bx]? = some (.cells #[v] 23 (0, 0)) ∧ OwnS W lo v out ∧ v.ownBlock ≠ some bx ∧ ∀ k, T k ↔ (k = bx ∨ v.ownBlock = some k)
  le : lo ≤ bx
theorem Acc.cells {lo bx : Nat} {out : List Txt} {T : Nat → Prop} {W : World} (h : Acc lo bx out T W) : ∀ k, T k → ∃ o : Obj, W.heap[k]? = some o ∧ o.isCells = true := by
  obtain ⟨v, h1, h2, _, h4⟩ := h.ex
  intro k hk
  rcases (h4 k).1 hk with rfl | hk
  · exact ⟨_, h1, rfl⟩
  · rcases h2.2 with ⟨e, _⟩ | ⟨b, cap, cur, e, _, e3, _⟩
    · rw [e] at hk; cases hk
    · rw [e] at hk
      have : b = k := by simpa [Value.ownBlock] using hk
      subst this
      exact ⟨_, e3, rfl⟩
theorem Own_kept1 {w w' : World} {B : Nat} {v : Value} {l : List Txt} (h : OwnS w B v l) (hk : ∀ k, v.ownBlock = some k → w'.heap[k]? = w.heap[k]?) : OwnS w' B v l := by
  refine ⟨h.1, ?_⟩
  rcases h.2 with e | ⟨b, cap, cur, e1, e2, e3, e4⟩
  · exact Or.inl e
  · exact Or.inr ⟨b, cap, cur, e1, e2, (hk b (by rw [e1]; rfl)).trans e3, e4⟩
theorem Acc.kept {lo bx : Nat} {out : List Txt} {T : Nat → Prop} {W W' : World} (h : Acc lo bx out T W) (hk : ∀ k, T k → W'.heap[k]? = W.heap[k]?) : Acc lo bx out T W' := by
  obtain ⟨v, h1, h2, h3, h4⟩ := h.ex
  refine ⟨⟨v, (hk bx ((h4 bx).2 (Or.inl rfl))).trans h1, ?_, h3, h4⟩, h.le⟩
  refine ⟨h2.1, ?_⟩
  rcases h2.2 with e | ⟨b, cap, cur, e1, e2, e3, e4⟩
  · exact Or.inl e
  · exact Or.inr ⟨b, cap, cur, e1, e2, (hk b ((h4 b).2 (Or.inr (by rw [e1]; rfl)))).trans e3, e4⟩
theorem srcS_oneD (w : World) (x : ByteArray) : Src Try.prog 1 23 (.slice (some ⟨w.heap.size, 0, none⟩) 1 1) 1 [.string x] (w.alloc (.cells #[.string x] 9)).drew :=
  Src.ofSlice _ Try.underlying23 _ 1 1 _ rfl (fun j u hj => news_one w (.string x) 9 j u hj) (fun u hu => by rw [List.mem_singleton] at hu; subst hu; rfl)
theorem row_slice {w : World} {B e sz n : Nat} {v : Value} {xs : List Value} (h : w.ownsRow B e sz v n xs) : ∃ a c, v = .slice a n c := by
  rcases h.2 with ⟨e1, e2⟩ | ⟨b, cap, cur, e1, _⟩
  · rw [e2]; exact ⟨none, 0, e1⟩
  · exact ⟨_, _, e1⟩
theorem acc_push {lo bx : Nat} {out : List Txt} {T : Nat → Prop} {W w5 : World} {o : Obj} {v v' : Value} {nm : Txt} (hb : W.heap[bx]? = some (.cells #[v] 23 (0, 0))) (_ho : OwnS W lo v out) (hne : v.ownBlock ≠ some bx) (hTk : ∀ k, T k ↔ (k = bx ∨ v.ownBlock = some k)) (hle : lo ≤ bx)
    (hown : w5.ownsRow lo 9 1 v' (out.length + 1) (sv out ++ [.string ⟨nm.toArray⟩])) (hg : Grew (W.alloc o).drew w5 v v') :
    ∃ T', (∀ k, T' k → T k ∨ W.heap.size ≤ k) ∧ Acc lo bx (out ++ [nm]) T' (w5.setCell ⟨bx, 0, none⟩ v') ∧ Turns T W (w5.setCell ⟨bx, 0, none⟩ v') := by
  have hbl : bx < W.heap.size := (Array.getElem?_eq_some_iff.1 hb).1
  have hs5 := hg.size
  have hs5' : W.heap.size + 1 ≤ w5.heap.size := by simpa using hs5
  have e1 : w5.heap[bx]? = W.heap[bx]? := (hg.gb.block bx (by simp; omega) (fun e => hne e.symm)).trans (Below.heap_alloc _ _ _ hbl)
  have hne' : v'.ownBlock ≠ some bx := fun e => by
    rcases hg.own bx e with h | h
    · exact hne h
    · simp at h; omega
  have hother : ∀ k, k ≠ bx → (w5.setCell ⟨bx, 0, none⟩ v').heap[k]? = w5.heap[k]? := fun k hk => Below.heap_setCell _ _ _ _ hk
  refine ⟨fun k => k = bx ∨ v'.ownBlock = some k, fun k hk => ?_, ⟨⟨v', ?_, ?_, hne', fun k => Iff.rfl⟩, hle⟩, ?_⟩
  · rcases hk with rfl | hk
    · exact Or.inl ((hTk _).2 (Or.inl rfl))
    · rcases hg.own k hk with h | h
      · exact Or.inl ((hTk _).2 (Or.inr h))
      · right; simp at h; omega
  · exact one_setCell (e1.trans hb)
  · exact Own_kept1 (ownS_push hown) (fun k hk => hother k (fun e => hne' (by rw [← e]; exact hk)))
  · refine ⟨hg.gb.os, hg.gb.tape, hg.gb.output, by simp; omega, fun k hk hT => ?_⟩
    have hkb : k ≠ bx := fun e => hT ((hTk k).2 (Or.inl e))
    have hkv : some k ≠ v.ownBlock := fun e => hT ((hTk k).2 (Or.inr e.symm))
    exact (hother k hkb).trans ((hg.gb.block k (by simp; omega) hkv).trans (Below.heap_alloc _ _ _ hk))
set_option maxRecDepth 100000 in
set_option maxHeartbeats 4000000 in
theorem tips1_yes (lo bx mp : Nat) (nm : Txt) (out : List Txt) (T : Nat → Prop) (W : World) (h : Acc lo bx out T W) (hT : ¬ T mp) (hm : W.cell? ⟨mp, 0, none⟩ = some (.string ⟨nm.toArray⟩)) (hl : out.length ≤ 4194304) (hlo : lo ≤ W.heap.size) :
    Calls Try.prog 34 #[.pointer (some ⟨mp, 0, none⟩), .bool true, .pointer (some ⟨bx, 0, none⟩)] W fun e W' => e = .returned (.tuple #[]) ∧ ∃ T', (∀ k, T' k → T k ∨ W.heap.size ≤ k) ∧ Acc lo bx (out ++ [nm]) T' W' ∧ Turns T W W' := by
  obtain ⟨i0, hi, hz0, hz1, hz2⟩ := info_parts Try.info9s
  obtain ⟨v, hb, ho, hne, hTk⟩ := h.ex
  have hmb : mp < W.heap.size := World.block_lt_of_cell? _ _ hm
  have hbl : bx < W.heap.size := (Array.getElem?_eq_some_iff.1 hb).1
  have hmo : v.ownBlock ≠ some mp := fun e => hT ((hTk mp).2 (Or.inr e))
  have hbm : mp ≠ bx := fun e => hT ((hTk mp).2 (Or.inl e))
  have c1 := cell_of_one hb
  have f1 := frozen_box hb 0
  obtain ⟨oa, oc, rfl⟩ := ownS_slice ho
  have HO := Lib.hid ho
  have HTK := Lib.hid hTk
  have HB := Lib.hid hb
  have hle := h.le
  clear h ho hTk hb
  go_enter Try.func34, Try.ntmps34
  go_wp2_with fail
  have k1 : ∀ (o : Obj), (W.alloc o).frozen? ⟨bx, 0, none⟩ = false := fun o => (World.frozen?_of_block (w := W) (Below.heap_alloc _ _ _ hbl)).trans f1
  have HK2 := Lib.hid (fun (o : Obj) (W5 : World) (v5 : Value) (g5 : Grew (W.alloc o).drew W5 (.slice oa out.length oc) v5) => (show (W5.cell? ⟨bx, 0, none⟩ = some (.slice oa out.length oc) ∧ W5.frozen? ⟨bx, 0, none⟩ = false ∧ W5.cell? ⟨mp, 0, none⟩ = some (.string ⟨nm.toArray⟩) ∧ W.heap.size ≤ W5.heap.size) from by
    have e1 : W5.heap[bx]? = W.heap[bx]? := (g5.gb.block bx (by simp; omega) (fun e => hne e.symm)).trans (Below.heap_alloc _ _ _ hbl)
    have e2 : W5.heap[mp]? = W.heap[mp]? := (g5.gb.block mp (by simp; omega) (fun e => hmo e.symm)).trans (Below.heap_alloc _ _ _ hmb)
    exact ⟨(World.cell?_of_block (w := W) e1).trans c1, (World.frozen?_of_block (w := W) e1).trans f1, (World.cell?_of_block (w := W) e2).trans hm, by have := g5.size; simp at this; omega⟩))
  go_region_law
    ((refine step_own_src _ (by rfl) _ _ 23 23 (by rfl) lo 9 i0 (.string ByteArray.empty) 1 16 Try.underlying23 hi hz0 hz1 hz2 rfl (by decide) _ _ _ (by rfl) (own_below HO.out (fun q _ hq => Below.heap_alloc W _ _ hq)) _ 1 [.string ⟨nm.toArray⟩] (by rfl) (srcS_oneD _ _) (by unfold maxLen; omega) (by omega) (by simp; omega) ?_; intro v5 w5 hown5 hg5; obtain ⟨a5, cc5, rfl⟩ := row_slice hown5; obtain ⟨s1, s2, _, _⟩ := HK2.out _ _ _ hg5))
  all_goals
    go_wp2_with fail
    go_end0
    exact ⟨rfl, acc_push HB.out HO.out hne HTK.out hle hown5 hg5⟩
theorem tips1_no (v1 v2 : Value) (W : World) : Calls Try.prog 34 #[v1, .bool false, v2] W fun e W' => e = .returned (.tuple #[]) ∧ W = W' := by
  go_enter Try.func34, Try.ntmps34
  go_wp2_with fail
  go_end0
  exact ⟨rfl, rfl⟩
/-- Of a variable: a row of marks. -/
structure Marks (W : World) (ba cb n : Nat) (f : Nat → Bool) : Prop where
  c : W.cell? ⟨ba, 0, none⟩ = some (.slice (some ⟨cb, 0, none⟩) n n)
  r : Bits W cb n f
theorem Marks.kept {W W' : World} {ba cb n : Nat} {f : Nat → Bool} (h : Marks W ba cb n f) (h1 : W'.heap[ba]? = W.heap[ba]?) (h2 : W'.heap[cb]? = W.heap[cb]?) (hs : W.heap.size ≤ W'.heap.size) : Marks W' ba cb n f :=
  ⟨(World.cell?_of_block (w := W) h1).trans h.c, h.r.kept h2 hs⟩
set_option maxRecDepth 100000 in
set_option maxHeartbeats 4000000 in
theorem bases1_no (ba cb n mp i : Nat) (f : Nat → Bool) (v1 v2 : Value) (W : World) (hA : Marks W ba cb n f) (hi : i < n) (_hn : n ≤ 4194304) (hm1 : W.cell? ⟨mp, 1, none⟩ = some (.int .i64 (i : Int))) (hf : f i = false) :
    Calls Try.prog 33 #[.pointer (some ⟨mp, 0, none⟩), v1, .pointer (some ⟨ba, 0, none⟩), v2] W fun e W' => e = .returned (.tuple #[]) ∧ ∃ n, W' = W.drewN n := by
  have c1 := hA.c
  have c2 := hA.r.cs i hi
  rw [hf] at c2
  clear hA hf
  go_enter Try.func33, Try.ntmps33
  go_wp2_with fail
  go_quiet (fail)
  go_wp2_with fail
  go_end0
  exact ⟨rfl, _, rfl⟩
set_option maxRecDepth 100000 in
set_option maxHeartbeats 4000000 in
theorem bases1_yes (ba cb n i : Nat) (f : Nat → Bool) (v1 : Value) (lo bx mp : Nat) (nm : Txt) (out : List Txt) (T : Nat → Prop) (W : World) (hA : Marks W ba cb n f) (hin : i < n) (_hn : n ≤ 4194304) (hm1 : W.cell? ⟨mp, 1, none⟩ = some (.int .i64 (i : Int))) (hf : f i = true)
    (h : Acc lo bx out T W) (hT : ¬ T mp) (hm : W.cell? ⟨mp, 0, none⟩ = some (.string ⟨nm.toArray⟩)) (hl : out.length ≤ 4194304) (hlo : lo ≤ W.heap.size) :
    Calls Try.prog 33 #[.pointer (some ⟨mp, 0, none⟩), v1, .pointer (some ⟨ba, 0, none⟩), .pointer (some ⟨bx, 0, none⟩)] W fun e W' => e = .returned (.tuple #[]) ∧ ∃ T', (∀ k, T' k → T k ∨ W.heap.size ≤ k) ∧ Acc lo bx (out ++ [nm]) T' W' ∧ Turns T W W' := by
  have a1 := hA.c
  have a2 := hA.r.cs i hin
  rw [hf] at a2
  clear hA hf
  obtain ⟨i0, hi, hz0, hz1, hz2⟩ := info_parts Try.info9s
  obtain ⟨v, hb, ho, hne, hTk⟩ := h.ex
  have hmb : mp < W.heap.size := World.block_lt_of_cell? _ _ hm
  have hbl : bx < W.heap.size := (Array.getElem?_eq_some_iff.1 hb).1
  have hmo : v.ownBlock ≠ some mp := fun e => hT ((hTk mp).2 (Or.inr e))
  have hbm : mp ≠ bx := fun e => hT ((hTk mp).2 (Or.inl e))
  have c1 := cell_of_one hb
  have f1 := frozen_box hb 0
  obtain ⟨oa, oc, rfl⟩ := ownS_slice ho
  have HO := Lib.hid ho
  have HTK := Lib.hid hTk
  have HB := Lib.hid hb
  have hle := h.le
  clear h ho hTk hb
  go_enter Try.func33, Try.ntmps33
  go_wp2_with fail
  go_quiet (fail)
  obtain ⟨W1, hW1⟩ : ∃ W1, W1 = W.drewN nq := ⟨_, rfl⟩
  have hb1 : bx < W1.heap.size := by rw [hW1]; exact hbl
  have hmb1 : mp < W1.heap.size := by rw [hW1]; exact hmb
  have hlo1 : lo ≤ W1.heap.size := by rw [hW1]; exact hlo
  have c11 : W1.cell? ⟨bx, 0, none⟩ = some (.slice oa out.length oc) := by rw [hW1]; exact c1
  have f11 : W1.frozen? ⟨bx, 0, none⟩ = false := by rw [hW1]; exact f1
  have hm11 : W1.cell? ⟨mp, 0, none⟩ = some (.string ⟨nm.toArray⟩) := by rw [hW1]; exact hm
  have HO1 : Hid (OwnS W1 lo (.slice oa out.length oc) out) := Lib.hid (by rw [hW1]; exact HO.out)
  have HB1 : Hid (W1.heap[bx]? = some (.cells #[.slice oa out.length oc] 23 (0, 0))) := Lib.hid (by rw [hW1]; exact HB.out)
  have HW1 := Lib.hid hW1
  rw [← hW1]
  clear hW1 a1 a2 hm1 c1 f1 hm hbl hmb HO hlo
  have k1 : ∀ (o : Obj), (W1.alloc o).frozen? ⟨bx, 0, none⟩ = false := fun o => (World.frozen?_of_block (w := W1) (Below.heap_alloc _ _ _ hb1)).trans f11
  have HK2 := Lib.hid (fun (o : Obj) (W5 : World) (v5 : Value) (g5 : Grew (W1.alloc o).drew W5 (.slice oa out.length oc) v5) => (show (W5.cell? ⟨bx, 0, none⟩ = some (.slice oa out.length oc) ∧ W5.frozen? ⟨bx, 0, none⟩ = false ∧ W5.cell? ⟨mp, 0, none⟩ = some (.string ⟨nm.toArray⟩) ∧ W1.heap.size ≤ W5.heap.size) from by
    have e1 : W5.heap[bx]? = W1.heap[bx]? := (g5.gb.block bx (by simp; omega) (fun e => hne e.symm)).trans (Below.heap_alloc _ _ _ hb1)
    have e2 : W5.heap[mp]? = W1.heap[mp]? := (g5.gb.block mp (by simp; omega) (fun e => hmo e.symm)).trans (Below.heap_alloc _ _ _ hmb1)
    exact ⟨(World.cell?_of_block (w := W1) e1).trans c11, (World.frozen?_of_block (w := W1) e1).trans f11, (World.cell?_of_block (w := W1) e2).trans hm11, by have := g5.size; simp at this; omega⟩))
  go_wp2_with fail
  go_region_law
    ((refine step_own_src _ (by rfl) _ _ 23 23 (by rfl) lo 9 i0 (.string ByteArray.empty) 1 16 Try.underlying23 hi hz0 hz1 hz2 rfl (by decide) _ _ _ (by rfl) (own_below HO1.out (fun q _ hq => Below.heap_alloc W1 _ _ hq)) _ 1 [.string ⟨nm.toArray⟩] (by rfl) (srcS_oneD _ _) (by unfold maxLen; omega) (by omega) (by simp; omega) ?_; intro v5 w5 hown5 hg5; obtain ⟨a5, cc5, rfl⟩ := row_slice hown5; obtain ⟨s1, s2, _, _⟩ := HK2.out _ _ _ hg5))
  all_goals
    go_wp2_with fail
    go_end0
    obtain ⟨T', t1, t2, t3⟩ := acc_push HB1.out HO1.out hne HTK.out hle hown5 hg5
    have hW1 := HW1.out
    subst hW1
    exact ⟨rfl, T', t1, t2, ⟨t3.os, t3.tape, t3.output, t3.size, t3.block⟩⟩
set_option maxRecDepth 100000 in
set_option maxHeartbeats 4000000 in
theorem missing1_no (ba cb n mp i : Nat) (f : Nat → Bool) (v1 v2 : Value) (W : World) (hA : Marks W ba cb n f) (hi : i < n) (_hn : n ≤ 4194304) (hm1 : W.cell? ⟨mp, 1, none⟩ = some (.int .i64 (i : Int))) (hf : f i = true) :
    Calls Try.prog 37 #[.pointer (some ⟨mp, 0, none⟩), v1, .pointer (some ⟨ba, 0, none⟩), v2] W fun e W' => e = .returned (.tuple #[]) ∧ ∃ n, W' = W.drewN n := by
  have c1 := hA.c
  have c2 := hA.r.cs i hi
  rw [hf] at c2
  clear hA hf
  go_enter Try.func37, Try.ntmps37
  go_wp2_with fail
  go_quiet (fail)
  go_wp2_with fail
  go_end0
  exact ⟨rfl, _, rfl⟩
set_option maxRecDepth 100000 in
set_option maxHeartbeats 4000000 in
theorem missing1_yes (ba cb n i : Nat) (f : Nat → Bool) (v1 : Value) (lo bx mp : Nat) (nm : Txt) (out : List Txt) (T : Nat → Prop) (W : World) (hA : Marks W ba cb n f) (hin : i < n) (_hn : n ≤ 4194304) (hm1 : W.cell? ⟨mp, 1, none⟩ = some (.int .i64 (i : Int))) (hf : f i = false)
    (h : Acc lo bx out T W) (hT : ¬ T mp) (hm : W.cell? ⟨mp, 0, none⟩ = some (.string ⟨nm.toArray⟩)) (hl : out.length ≤ 4194304) (hlo : lo ≤ W.heap.size) :
    Calls Try.prog 37 #[.pointer (some ⟨mp, 0, none⟩), v1, .pointer (some ⟨ba, 0, none⟩), .pointer (some ⟨bx, 0, none⟩)] W fun e W' => e = .returned (.tuple #[]) ∧ ∃ T', (∀ k, T' k → T k ∨ W.heap.size ≤ k) ∧ Acc lo bx (out ++ [nm]) T' W' ∧ Turns T W W' := by
  have a1 := hA.c
  have a2 := hA.r.cs i hin
  rw [hf] at a2
  clear hA hf
  obtain ⟨i0, hi, hz0, hz1, hz2⟩ := info_parts Try.info9s
  obtain ⟨v, hb, ho, hne, hTk⟩ := h.ex
  have hmb : mp < W.heap.size := World.block_lt_of_cell? _ _ hm
  have hbl : bx < W.heap.size := (Array.getElem?_eq_some_iff.1 hb).1
  have hmo : v.ownBlock ≠ some mp := fun e => hT ((hTk mp).2 (Or.inr e))
  have hbm : mp ≠ bx := fun e => hT ((hTk mp).2 (Or.inl e))
  have c1 := cell_of_one hb
  have f1 := frozen_box hb 0
  obtain ⟨oa, oc, rfl⟩ := ownS_slice ho
  have HO := Lib.hid ho
  have HTK := Lib.hid hTk
  have HB := Lib.hid hb
  have hle := h.le
  clear h ho hTk hb
  go_enter Try.func37, Try.ntmps37
  go_wp2_with fail
  go_quiet (fail)
  obtain ⟨W1, hW1⟩ : ∃ W1, W1 = W.drewN nq := ⟨_, rfl⟩
  have hb1 : bx < W1.heap.size := by rw [hW1]; exact hbl
  have hmb1 : mp < W1.heap.size := by rw [hW1]; exact hmb
  have hlo1 : lo ≤ W1.heap.size := by rw [hW1]; exact hlo
  have c11 : W1.cell? ⟨bx, 0, none⟩ = some (.slice oa out.length oc) := by rw [hW1]; exact c1
  have f11 : W1.frozen? ⟨bx, 0, none⟩ = false := by rw [hW1]; exact f1
  have hm11 : W1.cell? ⟨mp, 0, none⟩ = some (.string ⟨nm.toArray⟩) := by rw [hW1]; exact hm
  have HO1 : Hid (OwnS W1 lo (.slice oa out.length oc) out) := Lib.hid (by rw [hW1]; exact HO.out)
  have HB1 : Hid (W1.heap[bx]? = some (.cells #[.slice oa out.length oc] 23 (0, 0))) := Lib.hid (by rw [hW1]; exact HB.out)
  have HW1 := Lib.hid hW1
  rw [← hW1]
  clear hW1 a1 a2 hm1 c1 f1 hm hbl hmb HO hlo
  have k1 : ∀ (o : Obj), (W1.alloc o).frozen? ⟨bx, 0, none⟩ = false := fun o => (World.frozen?_of_block (w := W1) (Below.heap_alloc _ _ _ hb1)).trans f11
  have HK2 := Lib.hid (fun (o : Obj) (W5 : World) (v5 : Value) (g5 : Grew (W1.alloc o).drew W5 (.slice oa out.length oc) v5) => (show (W5.cell? ⟨bx, 0, none⟩ = some (.slice oa out.length oc) ∧ W5.frozen? ⟨bx, 0, none⟩ = false ∧ W5.cell? ⟨mp, 0, none⟩ = some (.string ⟨nm.toArray⟩) ∧ W1.heap.size ≤ W5.heap.size) from by
    have e1 : W5.heap[bx]? = W1.heap[bx]? := (g5.gb.block bx (by simp; omega) (fun e => hne e.symm)).trans (Below.heap_alloc _ _ _ hb1)
    have e2 : W5.heap[mp]? = W1.heap[mp]? := (g5.gb.block mp (by simp; omega) (fun e => hmo e.symm)).trans (Below.heap_alloc _ _ _ hmb1)
    exact ⟨(World.cell?_of_block (w := W1) e1).trans c11, (World.frozen?_of_block (w := W1) e1).trans f11, (World.cell?_of_block (w := W1) e2).trans hm11, by have := g5.size; simp at this; omega⟩))
  go_wp2_with fail
  go_region_law
    ((refine step_own_src _ (by rfl) _ _ 23 23 (by rfl) lo 9 i0 (.string ByteArray.empty) 1 16 Try.underlying23 hi hz0 hz1 hz2 rfl (by decide) _ _ _ (by rfl) (own_below HO1.out (fun q _ hq => Below.heap_alloc W1 _ _ hq)) _ 1 [.string ⟨nm.toArray⟩] (by rfl) (srcS_oneD _ _) (by unfold maxLen; omega) (by omega) (by simp; omega) ?_; intro v5 w5 hown5 hg5; obtain ⟨a5, cc5, rfl⟩ := row_slice hown5; obtain ⟨s1, s2, _, _⟩ := HK2.out _ _ _ hg5))
  all_goals
    go_wp2_with fail
    go_end0
    obtain ⟨T', t1, t2, t3⟩ := acc_push HB1.out HO1.out hne HTK.out hle hown5 hg5
    have hW1 := HW1.out
    subst hW1
    exact ⟨rfl, T', t1, t2, ⟨t3.os, t3.tape, t3.output, t3.size, t3.block⟩⟩
set_option maxRecDepth 100000 in
set_option maxHeartbeats 4000000 in
/-- A mark set. -/
theorem reached1_any (ba cb n mp i : Nat) (f : Nat → Bool) (v1 : Value) (W : World) (hA : Marks W ba cb n f) (hi : i < n) (_hn : n ≤ 4194304) (hm1 : W.cell? ⟨mp, 1, none⟩ = some (.int .i64 (i : Int))) :
    Calls Try.prog 42 #[.pointer (some ⟨mp, 0, none⟩), v1, .pointer (some ⟨ba, 0, none⟩)] W fun e W' => e = .returned (.tuple #[]) ∧ W' = (W.setCell ⟨cb, i, none⟩ (.bool true)).drew := by
  have c1 := hA.c
  have c2 := hA.r.cs i hi
  have c3 := hA.r.fr i
  generalize f i = b at *
  clear hA
  go_enter Try.func42, Try.ntmps42
  go_wp2_with fail
  go_region
  all_goals
    go_wp2_with fail
    go_end0
    exact ⟨rfl, rfl⟩
set_option maxRecDepth 100000 in
set_option maxHeartbeats 4000000 in
/-- A node looked for. -/
theorem comes1_any (bf bgo mp : Nat) (cm : Array Value) (go : Option Nat) (b t : Bool) (W : World) (c1 : W.cell? ⟨bf, 0, none⟩ = some (.bool b)) (f1 : W.frozen? ⟨bf, 0, none⟩ = false) (c2 : W.cell? ⟨bgo, 0, none⟩ = some (.pointer (go.map fun k => ⟨k, 0, none⟩)))
    (hm : W.heap[mp]? = some (.cells cm 65 (0, 0))) (hgo : ∀ k, go = some k → ∃ c, W.heap[k]? = some (.cells c 65 (0, 0))) :
    Calls Try.prog 30 #[.pointer (some ⟨mp, 0, none⟩), .bool t, .pointer (some ⟨bf, 0, none⟩), .pointer (some ⟨bgo, 0, none⟩)] W fun e W' => e = .returned (.tuple #[]) ∧ W' = W.setCell ⟨bf, 0, none⟩ (.bool (b || decide (go = some mp))) := by
  obtain ⟨j, hj⟩ : ∃ j, Try.prog.info? 65 = some j := ⟨_, rfl⟩
  have hsz : j.size ≠ 0 := by
    have : (Try.prog.info? 65).map (·.size) = some 3 := by kernel_rfl
    rw [hj] at this; simp at this; omega
  have up : Try.prog.underlying 59 = some (.pointer 65) := by kernel_rfl
  cases b
  · cases go with
    | none =>
      simp only [Option.map_none] at c2
      clear hm hgo hj
      go_enter Try.func30, Try.ntmps30
      go_wp2_with fail
      go_end0
      exact ⟨rfl, by simp⟩
    | some k =>
      simp only [Option.map_some] at c2
      by_cases e : k = mp
      · subst e
        have hq := run_eql_ptr_same (P := Try.prog) W ⟨k, 0, none⟩ up hj
        clear hm hgo hj
        go_enter Try.func30, Try.ntmps30
        go_wp2_with fail
        go_end0
        exact ⟨rfl, by simp⟩
      · obtain ⟨cc, hk⟩ := hgo k rfl
        have hq := run_eql_ptr_other (P := Try.prog) W (a := ⟨mp, 0, none⟩) (b := ⟨k, 0, none⟩) up hj hsz (fun h => e (by injection h with h _ _; exact h.symm)) hm hk
        clear hm hgo hj hk
        go_enter Try.func30, Try.ntmps30
        go_wp2_with fail
        go_end0
        exact ⟨rfl, by simp [e]⟩
  · clear hm hgo hj
    go_enter Try.func30, Try.ntmps30
    go_wp2_with fail
    go_end0
    exact ⟨rfl, by simp⟩
end Go.Proofs.Ytfphkbbgbfnhaaa
