/- Rows of cells in memory: slices of texts, of numbers, of pairs, of records that hold slices of texts. -/
import Derived.Test.YtaajfekolokaoaaBase
namespace Go.Proofs.Ytaajfekolokaoaa
open Go.RowKit

theorem add_pos (g o j : Nat) : (⟨g, o, none⟩ : Addr).add j = ⟨g, o + j, none⟩ := by simp [Addr.add]
/-- A slice value whose n elements of sz cells each are these cells, in a block of S. -/
def CellsC (S : Nat → Prop) (w : World) (v : Value) (n sz : Nat) (cs : List Value) : Prop :=
  cs.length = n * sz ∧ (∀ u ∈ cs, u.oneCell' = true) ∧ ((n = 0 ∧ ∃ a c, v = .slice a 0 c) ∨ ∃ g o cap, v = .slice (some ⟨g, o, none⟩) n cap ∧ S g ∧ n ≤ cap ∧ cap ≤ maxLen ∧ ∀ j u, cs[j]? = some u → w.cell? ⟨g, o + j, none⟩ = some u)
theorem CellsC.kept {S S' : Nat → Prop} {w w' : World} {v : Value} {n sz : Nat} {cs : List Value} (h : CellsC S w v n sz cs) (hk : ∀ k, S k → S' k ∧ w'.heap[k]? = w.heap[k]?) : CellsC S' w' v n sz cs := by
  refine ⟨h.1, h.2.1, ?_⟩
  rcases h.2.2 with h | ⟨g, o, c, h1, h2, h3, h4, h5⟩
  · exact Or.inl h
  · refine Or.inr ⟨g, o, c, h1, (hk _ h2).1, h3, h4, fun j u hj => ?_⟩
    rw [World.cell?_of_block (w := w) (hk _ h2).2]; exact h5 j u hj
theorem CellsC.shape {S : Nat → Prop} {w : World} {v : Value} {n sz : Nat} {cs : List Value} (h : CellsC S w v n sz cs) : ∃ a c, v = .slice a n c := by
  rcases h.2.2 with ⟨rfl, a, c, rfl⟩ | ⟨g, o, c, rfl, _⟩
  · exact ⟨a, c, rfl⟩
  · exact ⟨_, c, rfl⟩
theorem CellsC.at {S : Nat → Prop} {w : World} {a : Option Addr} {n c sz : Nat} {cs : List Value} (h : CellsC S w (.slice a n c) n sz cs) (hn : 0 < n) : ∃ g o, a = some ⟨g, o, none⟩ ∧ S g ∧ n ≤ c ∧ c ≤ 9223372036854775807 ∧ ∀ j u, cs[j]? = some u → w.cell? ⟨g, o + j, none⟩ = some u := by
  rcases h.2.2 with ⟨h0, _⟩ | ⟨g, o, c', h1, h2, h3, h4, h5⟩
  · omega
  · injection h1 with h1 _ h1c
    subst h1 h1c
    unfold maxLen at h4
    exact ⟨g, o, rfl, h2, h3, h4, h5⟩
theorem CellsC.src {S : Nat → Prop} {w : World} {v : Value} {n sz : Nat} {cs : List Value} {P : Program} {t e : TypeId} (h : CellsC S w v n sz cs) (ht : P.underlying t = some (.slice e)) : Src P sz t v n cs w := by
  rcases h.2.2 with ⟨rfl, a, c, rfl⟩ | ⟨g, o, c, rfl, _, _, _, h5⟩
  · have hcs : cs = [] := List.length_eq_zero_iff.1 (by rw [h.1, Nat.zero_mul])
    subst hcs
    cases a with
    | none => exact Src.ofNil w ht c
    | some a => exact Src.ofSlice w ht a 0 c [] (by simp) (fun j u hj => by simp at hj) (fun u hu => by cases hu)
  · exact Src.ofSlice w ht ⟨g, o, none⟩ n c cs h.1 (fun j u hj => by rw [add_pos]; exact h5 j u hj) h.2.1
theorem CellsC.nil (S : Nat → Prop) (w : World) (a : Option Addr) (c sz : Nat) : CellsC S w (.slice a 0 c) 0 sz [] := ⟨by simp, fun u hu => (by cases hu), Or.inl ⟨rfl, a, c, rfl⟩⟩
theorem own_cells {w : World} {B e sz : Nat} {v : Value} {n : Nat} {xs : List Value} (h : w.ownsRow B e sz v n xs) (h1 : ∀ u ∈ xs, u.oneCell' = true) : CellsC (fun k => B ≤ k ∧ k < w.heap.size) w v n sz xs := by
  refine ⟨h.1, h1, ?_⟩
  rcases h.2 with ⟨rfl, rfl⟩ | ⟨g, cap, cur, rfl, hB, hg, hnc, hcm, _⟩
  · exact Or.inl ⟨rfl, none, 0, rfl⟩
  · refine Or.inr ⟨g, 0, cap, rfl, ⟨hB, (Array.getElem?_eq_some_iff.1 hg).1⟩, hnc, hcm, fun j u hj => ?_⟩
    have := World.ownsRow.cells h rfl j u hj
    rwa [add_pos] at this
theorem row_cells (w : World) (cs : Array Value) (t : TypeId) (n sz : Nat) (hl : cs.size = n * sz) (hn : n ≤ maxLen) (h1 : ∀ u ∈ cs.toList, u.oneCell' = true) : CellsC (fun k => w.heap.size ≤ k ∧ k < w.heap.size + 1) (w.alloc (.cells cs t)) (.slice (some ⟨w.heap.size, 0, none⟩) n n) n sz cs.toList := by
  refine ⟨by rw [← hl]; simp, h1, Or.inr ⟨w.heap.size, 0, n, rfl, ⟨Nat.le_refl _, Nat.lt_succ_self _⟩, Nat.le_refl _, hn, fun j u hj => ?_⟩⟩
  rw [Nat.zero_add, World.cell?_alloc_mark]
  simpa using hj
/-- What is left of a slice, cut at both ends. -/
theorem CellsC.cut {S : Nat → Prop} {w : World} {a : Option Addr} {n c sz : Nat} {cs : List Value} (h : CellsC S w (.slice a n c) n sz cs) {P : Program} {t : TypeId} (ht : P.underlying t = some (.slice (P.elem t))) (hs : ∀ W, (sizeOf (P.elem t)).run P W = .ok sz W)
    {lo hi : Nat} (h1 : lo ≤ hi) (h2 : hi ≤ n) :
    ∃ a' c', (∀ W, (Instr.sliceAt t (.slice a n c) (some (.int .i64 (lo : Int))) (some (.int .i64 (hi : Int))) none).run P W = .ok (.slice a' (hi - lo) c') W) ∧ CellsC S w (.slice a' (hi - lo) c') (hi - lo) sz ((cs.drop (lo * sz)).take ((hi - lo) * sz)) := by
  have hc : n ≤ c := by
    rcases h.2.2 with ⟨h0, _⟩ | ⟨_, _, c', h0, _, h3, _⟩
    · omega
    · injection h0 with _ _ h0; omega
  refine ⟨if c = lo then a else a.map (·.add (lo * sz)), c - lo, fun W => ?_, ?_⟩
  · rw [run_sliceAt_slice W _ _ _ _ _ ht, run_slice_lh W _ _ _ _ ht _ _ _ _ (by omega) (by omega) (by omega), hs]
    simp [sliced, Result.andThen]
  · refine ⟨by rw [List.length_take, List.length_drop, h.1, ← Nat.sub_mul]; exact Nat.min_eq_left (Nat.mul_le_mul_right _ (by omega)), fun u hu => h.2.1 u (List.mem_of_mem_drop (List.mem_of_mem_take hu)), ?_⟩
    by_cases h0 : lo = hi
    · subst h0; rw [Nat.sub_self]; exact Or.inl ⟨rfl, _, _, rfl⟩
    · obtain ⟨g, o, rfl, k1, k2, k3, k4⟩ := h.at (by omega)
      rw [if_neg (by omega)]
      refine Or.inr ⟨g, o + lo * sz, c - lo, ?_, k1, by omega, by unfold maxLen; omega, fun j u hj => ?_⟩
      · rw [Option.map_some, add_pos]
      · rw [List.getElem?_take] at hj
        split at hj
        · rw [List.getElem?_drop] at hj
          rw [Nat.add_assoc]; exact k4 _ u hj
        · cases hj
theorem CellsC.cutL {S : Nat → Prop} {w : World} {a : Option Addr} {n c sz : Nat} {cs : List Value} (h : CellsC S w (.slice a n c) n sz cs) {P : Program} {t : TypeId} (ht : P.underlying t = some (.slice (P.elem t))) (hs : ∀ W, (sizeOf (P.elem t)).run P W = .ok sz W)
    {lo : Nat} (h1 : lo ≤ n) :
    ∃ a' c', (∀ W, (Instr.sliceAt t (.slice a n c) (some (.int .i64 (lo : Int))) none none).run P W = .ok (.slice a' (n - lo) c') W) ∧ CellsC S w (.slice a' (n - lo) c') (n - lo) sz (cs.drop (lo * sz)) := by
  obtain ⟨a', c', hr, hcs⟩ := h.cut ht hs h1 (Nat.le_refl n)
  have e : (cs.drop (lo * sz)).take ((n - lo) * sz) = cs.drop (lo * sz) := List.take_of_length_le (by rw [List.length_drop, h.1, ← Nat.sub_mul]; exact Nat.le_refl _)
  rw [e] at hcs
  have hc : n ≤ c := by
    rcases h.2.2 with ⟨h0, _⟩ | ⟨_, _, c', h0, _, h3, _⟩
    · omega
    · injection h0 with _ _ h0; omega
  refine ⟨a', c', fun W => ?_, hcs⟩
  have := hr W
  rw [run_sliceAt_slice W _ _ _ _ _ ht, run_slice_lh W _ _ _ _ ht _ _ _ _ (by omega) (by omega) (by omega), hs] at this
  rw [run_sliceAt_slice W _ _ _ _ _ ht, run_slice_l W _ _ _ _ ht _ _ (by omega) (by omega), hs]
  exact this
theorem CellsC.cutH {S : Nat → Prop} {w : World} {a : Option Addr} {n c sz : Nat} {cs : List Value} (h : CellsC S w (.slice a n c) n sz cs) {P : Program} {t : TypeId} (ht : P.underlying t = some (.slice (P.elem t))) (hs : ∀ W, (sizeOf (P.elem t)).run P W = .ok sz W)
    {hi : Nat} (h1 : hi ≤ n) :
    ∃ a' c', (∀ W, (Instr.sliceAt t (.slice a n c) none (some (.int .i64 (hi : Int))) none).run P W = .ok (.slice a' hi c') W) ∧ CellsC S w (.slice a' hi c') hi sz (cs.take (hi * sz)) := by
  obtain ⟨a', c', hr, hcs⟩ := h.cut ht hs (Nat.zero_le hi) h1
  rw [Nat.zero_mul, List.drop_zero, Nat.sub_zero] at hcs
  have hc : n ≤ c := by
    rcases h.2.2 with ⟨h0, _⟩ | ⟨_, _, c', h0, _, h3, _⟩
    · omega
    · injection h0 with _ _ h0; omega
  refine ⟨a', c', fun W => ?_, hcs⟩
  have := hr W
  rw [run_sliceAt_slice W _ _ _ _ _ ht, run_slice_lh W _ _ _ _ ht _ _ _ _ (by omega) (by omega) (by omega), hs, Nat.sub_zero] at this
  rw [run_sliceAt_slice W _ _ _ _ _ ht, run_slice_h W _ _ _ _ ht _ _ (by omega) (by omega), hs]
  exact this
/-- Texts as cells. -/
def sv (l : List (List UInt8)) : List Value := l.map fun x => Value.string ⟨x.toArray⟩
theorem sv_append (l r : List (List UInt8)) : sv (l ++ r) = sv l ++ sv r := by unfold sv; rw [List.map_append]
theorem sv_len (l : List (List UInt8)) : (sv l).length = l.length := by unfold sv; simp
theorem sv_one (l : List (List UInt8)) : ∀ u ∈ sv l, u.oneCell' = true := by
  intro u hu
  unfold sv at hu
  obtain ⟨x, _, rfl⟩ := List.mem_map.1 hu
  rfl
theorem sv_at {l : List (List UInt8)} {k : Nat} (h : k < l.length) : (sv l)[k]? = some (.string ⟨(l.getD k []).toArray⟩) := by
  unfold sv; simp [List.getD, List.getElem?_eq_getElem h]
theorem sv_drop (l : List (List UInt8)) (n : Nat) : sv (l.drop n) = (sv l).drop n := by unfold sv; rw [List.map_drop]
theorem sv_take (l : List (List UInt8)) (n : Nat) : sv (l.take n) = (sv l).take n := by unfold sv; rw [List.map_take]
def StrsC (S : Nat → Prop) (w : World) (v : Value) (l : List (List UInt8)) : Prop := CellsC S w v l.length 1 (sv l)
theorem StrsC.kept {S S' : Nat → Prop} {w w' : World} {v : Value} {l : List (List UInt8)} (h : StrsC S w v l) (hk : ∀ k, S k → S' k ∧ w'.heap[k]? = w.heap[k]?) : StrsC S' w' v l := CellsC.kept h hk
theorem StrsC.shape {S : Nat → Prop} {w : World} {v : Value} {l : List (List UInt8)} (h : StrsC S w v l) : ∃ a c, v = .slice a l.length c := CellsC.shape h
theorem StrsC.src {S : Nat → Prop} {w : World} {v : Value} {l : List (List UInt8)} (h : StrsC S w v l) : Src Try.prog 1 22 v l.length (sv l) w := CellsC.src h Try.underlying22
theorem StrsC.at {S : Nat → Prop} {w : World} {a : Option Addr} {c : Nat} {l : List (List UInt8)} (h : StrsC S w (.slice a l.length c) l) (hl : 0 < l.length) : ∃ g o, a = some ⟨g, o, none⟩ ∧ S g ∧ l.length ≤ c ∧ c ≤ 9223372036854775807 ∧ ∀ i, i < l.length → w.cell? ⟨g, o + i, none⟩ = some (.string ⟨(l.getD i []).toArray⟩) := by
  obtain ⟨g, o, h1, h2, h3, h4, h5⟩ := CellsC.at h hl
  exact ⟨g, o, h1, h2, h3, h4, fun i hi => h5 i _ (sv_at hi)⟩
theorem und_strs : Try.prog.underlying 22 = some (.slice (Try.prog.elem 22)) := by kernel_rfl
theorem size_strs (W : World) : (sizeOf (Try.prog.elem 22)).run Try.prog W = .ok 1 W := by kernel_rfl
theorem StrsC.cut {S : Nat → Prop} {w : World} {a : Option Addr} {c : Nat} {l : List (List UInt8)} (h : StrsC S w (.slice a l.length c) l) {lo hi : Nat} (h1 : lo ≤ hi) (h2 : hi ≤ l.length) :
    ∃ a' c', (∀ W, (Instr.sliceAt 22 (.slice a l.length c) (some (.int .i64 (lo : Int))) (some (.int .i64 (hi : Int))) none).run Try.prog W = .ok (.slice a' ((l.drop lo).take (hi - lo)).length c') W) ∧ StrsC S w (.slice a' ((l.drop lo).take (hi - lo)).length c') ((l.drop lo).take (hi - lo)) := by
  have e : ((l.drop lo).take (hi - lo)).length = hi - lo := by simp; omega
  obtain ⟨a', c', hr, hc⟩ := CellsC.cut h und_strs size_strs h1 h2
  rw [e]
  refine ⟨a', c', hr, ?_⟩
  unfold StrsC
  rw [e, sv_take, sv_drop]
  simpa using hc
theorem StrsC.cutL {S : Nat → Prop} {w : World} {a : Option Addr} {c : Nat} {l : List (List UInt8)} (h : StrsC S w (.slice a l.length c) l) {lo : Nat} (h1 : lo ≤ l.length) :
    ∃ a' c', (∀ W, (Instr.sliceAt 22 (.slice a l.length c) (some (.int .i64 (lo : Int))) none none).run Try.prog W = .ok (.slice a' (l.drop lo).length c') W) ∧ StrsC S w (.slice a' (l.drop lo).length c') (l.drop lo) := by
  have e : (l.drop lo).length = l.length - lo := by simp
  obtain ⟨a', c', hr, hc⟩ := CellsC.cutL h und_strs size_strs h1
  rw [e]
  refine ⟨a', c', hr, ?_⟩
  unfold StrsC
  rw [e, sv_drop]
  simpa using hc
theorem StrsC.cutH {S : Nat → Prop} {w : World} {a : Option Addr} {c : Nat} {l : List (List UInt8)} (h : StrsC S w (.slice a l.length c) l) {hi : Nat} (h1 : hi ≤ l.length) :
    ∃ a' c', (∀ W, (Instr.sliceAt 22 (.slice a l.length c) none (some (.int .i64 (hi : Int))) none).run Try.prog W = .ok (.slice a' (l.take hi).length c') W) ∧ StrsC S w (.slice a' (l.take hi).length c') (l.take hi) := by
  have e : (l.take hi).length = hi := by simp; omega
  obtain ⟨a', c', hr, hc⟩ := CellsC.cutH h und_strs size_strs h1
  rw [e]
  refine ⟨a', c', hr, ?_⟩
  unfold StrsC
  rw [e, sv_take]
  simpa using hc
/-- A row of texts of one's own. -/
def OwnS (w : World) (B : Nat) (v : Value) (l : List (List UInt8)) : Prop := w.ownsRow B 9 1 v l.length (sv l)
theorem ownS_nil (w : World) (B : Nat) : OwnS w B (.slice none 0 0) [] := World.ownsRow_nil _ _ _ _
theorem ownS_push {w2 : World} {B : Nat} {v : Value} {l : List (List UInt8)} {x : List UInt8} (h : w2.ownsRow B 9 1 v (l.length + 1) (sv l ++ [.string ⟨x.toArray⟩])) : OwnS w2 B v (l ++ [x]) := by
  unfold OwnS
  rw [sv_append, List.length_append]; exact h
theorem ownS_more {w2 : World} {B n : Nat} {v : Value} {l r : List (List UInt8)} (hn : n = l.length + r.length) (h : w2.ownsRow B 9 1 v n (sv l ++ sv r)) : OwnS w2 B v (l ++ r) := by
  unfold OwnS
  rw [sv_append, List.length_append, ← hn]; exact h
theorem srcS_one (w : World) (x : ByteArray) : Src Try.prog 1 22 (.slice (some ⟨w.heap.size, 0, none⟩) 1 1) 1 [.string x] (w.alloc (.cells #[.string x] 9)) :=
  Src.ofSlice _ Try.underlying22 _ 1 1 _ rfl (news_one _ _ _) (fun u hu => by rw [List.mem_singleton] at hu; subst hu; rfl)
theorem ownS_slice {w : World} {B : Nat} {v : Value} {l : List (List UInt8)} (h : OwnS w B v l) : ∃ a cap, v = .slice a l.length cap := by
  rcases h.2 with ⟨e, hn⟩ | ⟨g, cap, cur, e, _⟩
  · rw [hn]; exact ⟨none, 0, e⟩
  · exact ⟨_, _, e⟩
theorem ownS_c {w : World} {B : Nat} {v : Value} {l : List (List UInt8)} (h : OwnS w B v l) : StrsC (fun k => B ≤ k ∧ k < w.heap.size) w v l := own_cells h (sv_one l)
theorem Try.info9s : (Try.prog.info? 9).map (fun i => (i.zero, i.size, i.bytes)) = some (some (.string ByteArray.empty), 1, 16) := by kernel_rfl
theorem ownS_empty (w : World) : OwnS (w.alloc (.cells #[] 9)) w.heap.size (.slice (some ⟨w.heap.size, 0, none⟩) 0 0) [] :=
  ⟨rfl, Or.inr ⟨w.heap.size, 0, #[], rfl, Nat.le_refl _, new_five w _ _, Nat.le_refl _, Nat.zero_le _, rfl, rfl⟩⟩
theorem own_base {w : World} {B B' e sz n : Nat} {v : Value} {xs : List Value} (h : w.ownsRow B e sz v n xs) (hb : B' ≤ B) : w.ownsRow B' e sz v n xs := by
  refine ⟨h.1, ?_⟩
  rcases h.2 with h | ⟨g, cap, cur, h1, h2, h3⟩
  · exact Or.inl h
  · exact Or.inr ⟨g, cap, cur, h1, Nat.le_trans hb h2, h3⟩
theorem drewn (B : Nat) (w : World) (n : Nat) : Below B w (w.drewN n) := below_drewN B w n
theorem getD_at {α : Type} {l : List α} {d : α} {j : Nat} (h : j < l.length) : l.getD j d = l[j] := by simp [List.getD, List.getElem?_eq_getElem h]
theorem take_snoc {α : Type} {l : List α} {d : α} {k : Nat} (h : k < l.length) : l.take (k + 1) = l.take k ++ [l.getD k d] := by
  rw [List.take_succ_eq_append_getElem h, getD_at h]
/-- Bytes and texts, counted together. -/
def sumL (l : List (List UInt8)) : Nat := (l.map (fun x => x.length + 1)).sum
theorem sumL_cons (a : List UInt8) (r : List (List UInt8)) : sumL (a :: r) = a.length + 1 + sumL r := by unfold sumL; simp
theorem sumL_len (l : List (List UInt8)) : l.length ≤ sumL l := by
  induction l with
  | nil => simp
  | cons a r ih => rw [sumL_cons, List.length_cons]; omega
theorem sumL_mem (l : List (List UInt8)) : ∀ x ∈ l, x.length + 1 ≤ sumL l := by
  induction l with
  | nil => intro x hx; cases hx
  | cons a r ih =>
    intro x hx
    rw [sumL_cons]
    rcases List.mem_cons.1 hx with rfl | hx
    · omega
    · have := ih x hx; omega
end Go.Proofs.Ytaajfekolokaoaa
