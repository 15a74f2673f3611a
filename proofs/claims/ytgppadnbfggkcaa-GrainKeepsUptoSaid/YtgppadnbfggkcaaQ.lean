/- The walk of the reader's list. -/
import Derived.Test.YtgppadnbfggkcaaP
namespace Go.Proofs.Ytgppadnbfggkcaa
open Go.RowKit

theorem BytesC.shape {S : Nat → Prop} {w : World} {v : Value} {l : List UInt8} (h : BytesC S w v l) : ∃ a cap, v = .slice a l.length cap := by
  rcases h with ⟨rfl, rfl⟩ | ⟨a, cap, rfl, _⟩
  · exact ⟨none, 0, rfl⟩
  · exact ⟨_, _, rfl⟩
theorem ListS.shape {S : Nat → Prop} {w : World} {R : Value → Val → Prop} {v : Value} {l : List Val} (h : ListS S w R v l) : ∃ a cap, v = .slice a l.length cap := by
  rcases h with ⟨rfl, rfl⟩ | ⟨g, o, cap, rfl, _⟩
  · exact ⟨none, 0, rfl⟩
  · exact ⟨_, _, rfl⟩
theorem ReadsS.shape {S : Nat → Prop} {w : World} : ∀ {n : Nat} {v : Value} {k : Int} {u : Nat} {b : List UInt8} {f : Nat} {l : List Val}, ReadsS S w n v (.mk k u b f l) →
    ∃ a1 n1 c1 a2 n2 c2, v = .agg #[.int .i64 k, .int .u64 u, .slice a1 n1 c1, .float .f64 f, .slice a2 n2 c2]
  | 0, _, _, _, _, _, _, h => h
  | _ + 1, _, _, _, _, _, _, ⟨vb, vl, h, _, _, _, _, h5, h6⟩ => by
    obtain ⟨a1, c1, rfl⟩ := h5.shape
    obtain ⟨a2, c2, rfl⟩ := h6.shape
    exact ⟨a1, _, c1, a2, _, c2, h⟩
/-- The five cells of a value. -/
structure Five where
  c0 : Value
  c1 : Value
  c2 : Value
  c3 : Value
  c4 : Value
def Five.flat (q : Five) : List Value := [q.c0, q.c1, q.c2, q.c3, q.c4]
def Five.agg (q : Five) : Value := .agg #[q.c0, q.c1, q.c2, q.c3, q.c4]
theorem flat_at : ∀ (qs : List Five) (j : Nat) (q : Five), qs[j]? = some q →
    (qs.flatMap Five.flat)[j * 5]? = some q.c0 ∧ (qs.flatMap Five.flat)[j * 5 + 1]? = some q.c1 ∧ (qs.flatMap Five.flat)[j * 5 + 2]? = some q.c2 ∧ (qs.flatMap Five.flat)[j * 5 + 3]? = some q.c3 ∧ (qs.flatMap Five.flat)[j * 5 + 4]? = some q.c4
  | [], j, q, h => by simp at h
  | p :: qs, 0, q, h => by
    simp at h; subst h
    exact ⟨rfl, rfl, rfl, rfl, rfl⟩
  | p :: qs, j + 1, q, h => by
    have ih := flat_at qs j q (by simpa using h)
    have e : ∀ i, ((p :: qs).flatMap Five.flat)[(j + 1) * 5 + i]? = (qs.flatMap Five.flat)[j * 5 + i]? := by
      intro i
      rw [List.flatMap_cons, List.getElem?_append_right (by simp [Five.flat]; omega)]
      congr 1
      simp [Five.flat]; omega
    exact ⟨(e 0).trans ih.1, (e 1).trans ih.2.1, (e 2).trans ih.2.2.1, (e 3).trans ih.2.2.2.1, (e 4).trans ih.2.2.2.2⟩
theorem flat_len (qs : List Five) : (qs.flatMap Five.flat).length = qs.length * 5 := by
  induction qs with
  | nil => rfl
  | cons q qs ih => rw [List.flatMap_cons, List.length_append, ih]; simp [Five.flat]; omega
theorem Try.info27 : (Try.prog.info? 27).map (fun i => (i.zero, i.size, i.bytes)) = some (some (.agg #[.int .i64 0, .int .u64 0, .slice none 0 0, .float .f64 0, .slice none 0 0]), 5, 72) := by kernel_rfl
theorem five_src (w : World) (k u : Int) (a1 a2 : Option Addr) (n1 c1 n2 c2 fb : Nat) : Src Try.prog 5 25 (.slice (some ⟨w.heap.size, 0, none⟩) 1 1) 1 [.int .i64 k, .int .u64 u, .slice a1 n1 c1, .float .f64 fb, .slice a2 n2 c2]
    (w.alloc (.cells #[.int .i64 k, .int .u64 u, .slice a1 n1 c1, .float .f64 fb, .slice a2 n2 c2] 27)) := by
  refine Src.ofSlice _ Try.underlying25 _ 1 1 _ rfl (fun j v hj => ?_) (fun v hv => ?_)
  · have e : (⟨w.heap.size, 0, none⟩ : Addr).add j = ⟨w.heap.size, j, none⟩ := by simp [Addr.add]; omega
    rw [e, World.cell?_alloc_mark]
    simpa using hj
  · simp at hv
    rcases hv with rfl | rfl | rfl | rfl | rfl <;> rfl
def ValGives (S : Nat → Prop) (rb : Nat) (w : World) (n : Nat) (r : Except Int (Val × List UInt8)) (e : Ending) (w' : World) : Prop :=
  match r with
  | .ok (x, l) => ∃ v, e = .returned v ∧ ReadsS (fun k => w.heap.size ≤ k ∧ k < w'.heap.size) w' n v x ∧ RestAt S rb w' l ∧ w.grownBy w' (some rb)
  | .error c => RPanics rb w c e w'
def ListGives (S : Nat → Prop) (rb : Nat) (w : World) (n : Nat) (r : Except Int (List Val × List UInt8)) (e : Ending) (w' : World) : Prop :=
  match r with
  | .ok (xs, l) => ∃ v, e = .returned v ∧ ListS (fun k => w.heap.size ≤ k ∧ k < w'.heap.size) w' (ReadsS (fun k => w.heap.size ≤ k ∧ k < w'.heap.size) w' n) v xs ∧ RestAt S rb w' l ∧ w.grownBy w' (some rb)
  | .error c => RPanics rb w c e w'
def ValueOk (n : Nat) : Prop := ∀ (S : Nat → Prop) (rb : Nat) (l : List UInt8) (a : Nat) (w : World), a + n = 16 → l.length ≤ 1048576 → RestAt S rb w l →
    Calls Try.prog 34 #[.pointer (some ⟨rb, 0, none⟩), .int .i64 a] w (ValGives S rb w n (valD n l))
/-- The rows read so far, and their values. -/
structure Rows5 (B : Nat) (w : World) (n : Nat) (v : Value) (qs : List Five) (ys : List Val) : Prop where
  own : w.ownsRow B 27 5 v qs.length (qs.flatMap Five.flat)
  len : qs.length = ys.length
  each : ∀ (j : Nat) (q : Five) (y : Val), qs[j]? = some q → ys[j]? = some y → ReadsS (fun k => B ≤ k ∧ k < w.heap.size ∧ v.ownBlock ≠ some k) w n q.agg y
theorem Rows5.nil (B : Nat) (w : World) (n : Nat) : Rows5 B w n (.slice none 0 0) [] [] := ⟨World.ownsRow_nil _ _ _ _, rfl, fun j q y h _ => by simp at h⟩
/-- A value more is read, and stands behind the others. -/
theorem Rows5.more {B : Nat} {w w2 w4 : World} {n rb : Nat} {v v' : Value} {qs : List Five} {ys : List Val} {q : Five} {y : Val} {o : Obj} (h : Rows5 B w n v qs ys) (hB : B ≤ w.heap.size) (hrb : rb < B) (hk : w.grownBy w2 (some rb))
    (hy : ReadsS (fun k => w.heap.size ≤ k ∧ k < w2.heap.size) w2 n q.agg y) (hg : Grew (w2.alloc o) w4 v v') (hown : w4.ownsRow B 27 5 v' (qs.length + 1) (qs.flatMap Five.flat ++ q.flat)) : Rows5 B w4 n v' (qs ++ [q]) (ys ++ [y]) := by
  have hs2 := hk.size
  have hs4 := hg.size
  simp at hs4
  have hvb : ∀ k, v.ownBlock = some k → B ≤ k ∧ k < w.heap.size := fun k hk => World.ownsRow.lt h.own k hk
  have keep : ∀ k, B ≤ k → k < w2.heap.size → v.ownBlock ≠ some k → (B ≤ k ∧ k < w4.heap.size ∧ v'.ownBlock ≠ some k) ∧ w4.heap[k]? = w2.heap[k]? := by
    intro k k1 k2 k3
    refine ⟨⟨k1, by omega, fun e => ?_⟩, ?_⟩
    · rcases hg.own k e with e2 | e2
      · exact k3 e2
      · simp at e2; omega
    · rw [hg.gb.block k (by simp; omega) (fun e => k3 e.symm), Below.heap_alloc _ _ _ k2]
  refine ⟨?_, by simp [h.len], fun j p z hp hz => ?_⟩
  · rw [List.flatMap_append, List.length_append]; simpa using hown
  · by_cases hj : j < qs.length
    · rw [List.getElem?_append_left hj] at hp
      rw [List.getElem?_append_left (by rw [← h.len]; exact hj)] at hz
      refine ReadsS.kept (fun k hk1 => ?_) n _ _ (h.each j p z hp hz)
      obtain ⟨k1, k2, k3⟩ := hk1
      have a := keep k k1 (by omega) k3
      refine ⟨a.1, a.2.trans ?_⟩
      exact hk.block k k2 (fun e => by injection e with e; omega)
    · have hj2 : j = qs.length := by
        have := (List.getElem?_eq_some_iff.1 hp).1
        simp at this; omega
      subst hj2
      rw [List.getElem?_append_right (Nat.le_refl _), Nat.sub_self] at hp
      rw [h.len, List.getElem?_append_right (Nat.le_refl _), Nat.sub_self] at hz
      simp at hp hz
      subst hp hz
      refine ReadsS.kept (fun k hk1 => ?_) n _ _ hy
      exact keep k (by omega) hk1.2 (fun e => by have := hvb k e; omega)
theorem Rows5.list {B : Nat} {w : World} {n : Nat} {v : Value} {qs : List Five} {ys : List Val} (h : Rows5 B w n v qs ys) : ListS (fun k => B ≤ k ∧ k < w.heap.size) w (ReadsS (fun k => B ≤ k ∧ k < w.heap.size) w n) v ys := by
  rcases h.own.2 with ⟨rfl, hn⟩ | ⟨g, cap, cur, rfl, hB, hg, hnc, hcm, _⟩
  · refine Or.inl ⟨rfl, ?_⟩
    exact List.length_eq_zero_iff.1 (by rw [← h.len]; exact hn)
  · refine Or.inr ⟨g, 0, cap, by rw [h.len], by rw [← h.len]; exact hnc, hcm, ⟨hB, (Array.getElem?_eq_some_iff.1 hg).1⟩, fun j y hy => ?_⟩
    have hj : j < qs.length := by rw [h.len]; exact (List.getElem?_eq_some_iff.1 hy).1
    have hq : qs[j]? = some qs[j] := List.getElem?_eq_getElem hj
    obtain ⟨f0, f1, f2, f3, f4⟩ := flat_at qs j _ hq
    have hc := World.ownsRow.cells h.own (g := g) rfl
    have ea : ∀ i, (⟨g, 0, none⟩ : Addr).add i = ⟨g, 0 + i, none⟩ := fun i => by simp [Addr.add]; omega
    have d0 := hc _ _ f0
    have d1 := hc _ _ f1
    have d2 := hc _ _ f2
    have d3 := hc _ _ f3
    have d4 := hc _ _ f4
    rw [ea] at d0 d1 d2 d3 d4
    refine ⟨_, _, _, _, _, d0, ?_, ?_, ?_, ?_, ReadsS.kept (fun k hk => ⟨⟨hk.1, hk.2.1⟩, rfl⟩) n _ _ (h.each j _ y hq hy)⟩
    · rw [← d1]; congr 2
    · rw [← d2]; congr 2
    · rw [← d3]; congr 2
    · rw [← d4]; congr 2
end Go.Proofs.Ytgppadnbfggkcaa
