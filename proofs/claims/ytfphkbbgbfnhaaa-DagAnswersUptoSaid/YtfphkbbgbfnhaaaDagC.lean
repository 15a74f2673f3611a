/- A graph in memory: what its blocks hold; the walks of New and Len; a node looked up. -/
import Derived.Test.YtfphkbbgbfnhaaaDagB
import Derived.Test.YtfphkbbgbfnhaaaRecs
import Derived.Maps.OwnOps
import Derived.Maps.Views
import Derived.Carry
import Derived.StringKeys
namespace Go.Proofs.Ytfphkbbgbfnhaaa
open Go.RowKit Go.Maps

theorem frozen_box {w : World} {b : Nat} {cs : Array Value} {t : TypeId} (h : w.heap[b]? = some (.cells cs t (0, 0))) (q : Nat) : w.frozen? ⟨b, q, none⟩ = false := by
  unfold World.frozen?; simp [h]
/-- A pointer to a record of a block's own, as a datum. -/
def ptrR : Value → Option (DataW Unit × List MemPlace)
  | .pointer none => some (.lit (.int .i64 (-1)), [])
  | .pointer (some ⟨b, 0, none⟩) => some (.lit (.int .i64 (b : Int)), [])
  | _ => none
theorem ptrR_none {v : Value} {ps : List MemPlace} (h : ptrR v = some (.lit (.int .i64 (-1)), ps)) : v = .pointer none := by
  unfold ptrR at h
  split at h
  · rfl
  · simp only [Option.some.injEq, Prod.mk.injEq, DataW.lit.injEq, Lit.int.injEq] at h
    omega
  · cases h
theorem ptrR_some {v : Value} {b : Nat} {ps : List MemPlace} (h : ptrR v = some (.lit (.int .i64 (b : Int)), ps)) : v = .pointer (some ⟨b, 0, none⟩) := by
  unfold ptrR at h
  split at h
  · simp only [Option.some.injEq, Prod.mk.injEq, DataW.lit.injEq, Lit.int.injEq] at h
    omega
  · rename_i b2
    simp only [Option.some.injEq, Prod.mk.injEq, DataW.lit.injEq, Lit.int.injEq] at h
    have : b2 = b := by omega
    rw [this]
  · cases h
/-- Members as pointers to their blocks. -/
def pv (mb : Nat → Nat) (l : List Nat) : List Value := l.map fun i => .pointer (some ⟨mb i, 0, none⟩)
theorem pv_len (mb : Nat → Nat) (l : List Nat) : (pv mb l).length = l.length := by unfold pv; simp
theorem pv_one (mb : Nat → Nat) (l : List Nat) : ∀ u ∈ pv mb l, u.oneCell' = true := by
  intro u hu
  unfold pv at hu
  obtain ⟨x, _, rfl⟩ := List.mem_map.1 hu
  rfl
theorem pv_at {mb : Nat → Nat} {l : List Nat} {k : Nat} (h : k < l.length) : (pv mb l)[k]? = some (.pointer (some ⟨mb (l.getD k 0), 0, none⟩)) := by
  unfold pv; simp [List.getD, List.getElem?_eq_getElem h]
/-- A graph: S the blocks that are its own, but for the row of its members. -/
structure GrAt (B : Nat) (S : Nat → Prop) (w : World) (bg bm : Nat) (va : Value) (D : DataW Unit) (mb : Nat → Nat) (g : Gr) : Prop where
  good : Good g
  len : g.length ≤ 65536
  txt : ∀ i, (nmOf g i).length ≤ 4194304
  dom : ∀ k, S k → B ≤ k ∧ k < w.heap.size
  sg : S bg
  sm : S bm
  smb : ∀ i, i < g.length → S (mb i)
  inj : ∀ i j, i < g.length → j < g.length → mb i = mb j → i = j
  row : w.ownsRow B 59 1 va g.length (pv mb (List.range g.length))
  rowS : ∀ k, va.ownBlock = some k → ¬ S k
  c0 : w.cell? ⟨bg, 0, none⟩ = some (.map (some bm))
  c1 : w.cell? ⟨bg, 1, none⟩ = some va
  f1 : w.frozen? ⟨bg, 1, none⟩ = false
  own : w.ownsMap Try.prog 9 ptrR bm g.length D
  tidy : Tidy D
  at_ : ∀ x, D.atKey (.string x) (.lit (.int .i64 (-1))) = .lit (.int .i64 (if idxN g x < g.length then ((mb (idxN g x) : Nat) : Int) else -1))
  blk : ∀ i, i < g.length → ∃ v, w.heap[mb i]? = some (.cells #[.string ⟨(nmOf g i).toArray⟩, .int .i64 (i : Int), v] 65 (0, 0)) ∧ CellsC (fun k => S k ∧ k ≠ bg ∧ k ≠ bm) w v (psOf g i).length 1 (pv mb (psOf g i))
theorem GrAt.mems {B : Nat} {S : Nat → Prop} {w : World} {bg bm : Nat} {va : Value} {D : DataW Unit} {mb : Nat → Nat} {g : Gr} (h : GrAt B S w bg bm va D mb g) : ∀ i, i < g.length → ∃ v, w.cell? ⟨mb i, 0, none⟩ = some (.string ⟨(nmOf g i).toArray⟩) ∧ w.cell? ⟨mb i, 1, none⟩ = some (.int .i64 (i : Int)) ∧ w.cell? ⟨mb i, 2, none⟩ = some v ∧ CellsC S w v (psOf g i).length 1 (pv mb (psOf g i)) := by
  intro i hi
  obtain ⟨v, h1, h2⟩ := h.blk i hi
  exact ⟨v, by rw [cell_of_row _ _ _ _ _ _ h1]; rfl, by rw [cell_of_row _ _ _ _ _ _ h1]; rfl, by rw [cell_of_row _ _ _ _ _ _ h1]; rfl, h2.kept (fun k hk => ⟨hk.1, rfl⟩)⟩
/-- An owned row's cells, in its own block. -/
theorem own_self {w : World} {B e sz : Nat} {v : Value} {n : Nat} {xs : List Value} (h : w.ownsRow B e sz v n xs) (h1 : ∀ u ∈ xs, u.oneCell' = true) : CellsC (fun k => v.ownBlock = some k) w v n sz xs := by
  refine ⟨h.1, h1, ?_⟩
  rcases h.2 with ⟨rfl, rfl⟩ | ⟨g, cap, cur, rfl, hB, hg, hnc, hcm, _⟩
  · exact Or.inl ⟨rfl, none, 0, rfl⟩
  · refine Or.inr ⟨g, 0, cap, rfl, rfl, hnc, hcm, fun j u hj => ?_⟩
    have := World.ownsRow.cells h rfl j u hj
    rwa [add_pos] at this
/-- All its blocks. -/
def GrDom (S : Nat → Prop) (va : Value) (k : Nat) : Prop := S k ∨ va.ownBlock = some k
theorem GrAt.domlt {B : Nat} {S : Nat → Prop} {w : World} {bg bm : Nat} {va : Value} {D : DataW Unit} {mb : Nat → Nat} {g : Gr} (h : GrAt B S w bg bm va D mb g) : ∀ k, GrDom S va k → B ≤ k ∧ k < w.heap.size := by
  rintro k (hk | hk)
  · exact h.dom k hk
  · exact World.ownsRow.lt h.row k hk
theorem GrAt.kept {B : Nat} {S : Nat → Prop} {w w' : World} {bg bm : Nat} {va : Value} {D : DataW Unit} {mb : Nat → Nat} {g : Gr} (h : GrAt B S w bg bm va D mb g) (hk : ∀ k, GrDom S va k → w'.heap[k]? = w.heap[k]?) (hs : w.heap.size ≤ w'.heap.size) : GrAt B S w' bg bm va D mb g := by
  have hc : ∀ b o, S b → w'.cell? ⟨b, o, none⟩ = w.cell? ⟨b, o, none⟩ := fun b o hb => World.cell?_of_block (w := w) (hk b (Or.inl hb))
  refine ⟨h.good, h.len, h.txt, fun k hS => ⟨(h.dom k hS).1, Nat.lt_of_lt_of_le (h.dom k hS).2 hs⟩, h.sg, h.sm, h.smb, h.inj, ?_, h.rowS, (hc _ _ h.sg).trans h.c0, (hc _ _ h.sg).trans h.c1, (World.frozen?_of_block (w := w) (hk bg (Or.inl h.sg))).trans h.f1, ?_, h.tidy, h.at_, fun i hi => ?_⟩
  · refine ⟨h.row.1, ?_⟩
    rcases h.row.2 with h2 | ⟨b, cap, cur, e1, e2, e3, e4⟩
    · exact Or.inl h2
    · exact Or.inr ⟨b, cap, cur, e1, e2, (hk b (Or.inr (by rw [e1]; rfl))).trans e3, e4⟩
  · obtain ⟨es, clock, hb, F, hs2, hD⟩ := h.own
    exact ⟨es, clock, (hk bm (Or.inl h.sm)).trans hb, F, hs2, hD⟩
  · obtain ⟨v, a1, a4⟩ := h.blk i hi
    exact ⟨v, (hk _ (Or.inl (h.smb i hi))).trans a1, a4.kept (fun k hS => ⟨hS, hk k (Or.inl hS.1)⟩)⟩
theorem GrAt.below {B : Nat} {S : Nat → Prop} {w w' : World} {bg bm : Nat} {va : Value} {D : DataW Unit} {mb : Nat → Nat} {g : Gr} (h : GrAt B S w bg bm va D mb g) (hb : Below w.heap.size w w') : GrAt B S w' bg bm va D mb g :=
  h.kept (fun k hk => hb.block k (h.domlt k hk).2) hb.size
theorem keyLaw : Keyed Try.prog 9 := string_keyed Try.underlying9
theorem key_of {x : Txt} (h : x.length ≤ 4194304) : keyOf Try.prog 9 (.string ⟨x.toArray⟩) = some (.string x) := by
  have := Go.WideMaps.keyOf_string_mk Try.underlying9 (s := ⟨x.toArray⟩) (by unfold maxLen; simp [ByteArray.size]; omega)
  simpa using this
theorem zeroPtr (w : World) : (zeroValue 59).run Try.prog w = .ok (.pointer none) w := by kernel_rfl
/-- A node looked up. -/
theorem GrAt.look {B : Nat} {S : Nat → Prop} {w : World} {bg bm : Nat} {va : Value} {D : DataW Unit} {mb : Nat → Nat} {g : Gr} (h : GrAt B S w bg bm va D mb g) {x : Txt} (hx : x.length ≤ 4194304) :
    (Instr.lookup 60 (.map (some bm)) (.string ⟨x.toArray⟩) false).run Try.prog w = .ok (if idxN g x < g.length then .pointer (some ⟨mb (idxN g x), 0, none⟩) else .pointer none) w := by
  obtain ⟨v, ps, hrun, hv⟩ := h.own.lookup keyLaw Try.underlying60 (zeroPtr w) (zd := .lit (.int .i64 (-1))) (zp := []) rfl (key_of hx)
  rw [h.at_] at hv
  rw [hrun]
  split at hv
  · rename_i hi
    rw [ptrR_some hv, if_pos hi]
  · rename_i hi
    rw [ptrR_none hv, if_neg hi]
theorem und_ptrs : Try.prog.underlying 61 = some (.slice (Try.prog.elem 61)) := by kernel_rfl
theorem Try.info59p : (Try.prog.info? 59).map (fun i => (i.zero, i.size, i.bytes)) = some (some (.pointer none), 1, 8) := by kernel_rfl
set_option maxHeartbeats 1000000 in
theorem new_any (w : World) : Calls Try.prog 25 #[] w fun e w' => ∃ bg bm S, e = .returned (.pointer (some ⟨bg, 0, none⟩)) ∧ GrAt w.heap.size S w' bg bm (.slice none 0 0) (.map []) (fun _ => 0) [] ∧ Below w.heap.size w w' := by
  have hmm := @run_makeMap Try.prog
  go_enter Try.func25, Try.ntmps25
  go_wp2_with fail
  go_ret
  have hb : ((w.alloc (.map #[] 0)).alloc (.cells #[.map (some w.heap.size), .slice none 0 0] 63)).heap[w.heap.size + 1]? = some (.cells #[.map (some w.heap.size), .slice none 0 0] 63 (0, 0)) := by
    have := new_five (w.alloc (.map #[] 0)) #[.map (some w.heap.size), .slice none 0 0] 63
    simpa using this
  refine ⟨w.heap.size + 1, w.heap.size, fun k => k = w.heap.size ∨ k = w.heap.size + 1, rfl, ?_, ((Below.refl _ w).alloc (Nat.le_refl _) _).alloc (by simp) _⟩
  refine ⟨⟨List.nodup_nil, fun i hi => absurd hi (by simp)⟩, by simp, fun i => by simp [nmOf], ?_, Or.inr rfl, Or.inl rfl, fun i hi => absurd hi (by simp), fun i j hi => absurd hi (by simp), World.ownsRow_nil _ _ _ _, fun k hk => by simp [Value.ownBlock] at hk, ?_, ?_, ?_, ?_, tidy_empty, ?_, fun i hi => absurd hi (by simp)⟩
  · rintro k (rfl | rfl) <;> simp <;> omega
  · rw [cell_of_row _ _ _ _ _ _ hb]; rfl
  · rw [cell_of_row _ _ _ _ _ _ hb]; rfl
  · exact frozen_box hb 1
  · exact (World.ownsMap_made w _ _ _).alloc _
  · intro x
    simp [DataW.atKey, idxN]
theorem len_any {B : Nat} {S : Nat → Prop} {w : World} {bg bm : Nat} {va : Value} {D : DataW Unit} {mb : Nat → Nat} {g : Gr} (h : GrAt B S w bg bm va D mb g) :
    Calls Try.prog 26 #[.pointer (some ⟨bg, 0, none⟩)] w fun e w' => e = .returned (.int .i64 (g.length : Int)) ∧ w = w' := by
  have c1 := h.c1
  obtain ⟨a, c, rfl⟩ := (own_cells h.row (pv_one _ _)).shape
  clear h
  go_enter Try.func26, Try.ntmps26
  go_wp2_with fail
  go_ret
  exact ⟨rfl, rfl⟩
end Go.Proofs.Ytfphkbbgbfnhaaa
