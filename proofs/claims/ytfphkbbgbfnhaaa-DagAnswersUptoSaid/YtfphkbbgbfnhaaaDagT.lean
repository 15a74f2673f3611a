/- The graph of some nodes, as a list; the walk of the laws' built. -/
import Derived.Test.YtfphkbbgbfnhaaaDagS
namespace Go.Proofs.Ytfphkbbgbfnhaaa
open Go.RowKit Go.Shelf Go.Maps Go.Lib Go.Sort

def names (g : Gr) : List Txt := g.map (·.name)
/-- A graph with one node more, where it is taken. -/
def addG (g : Gr) (x : Txt) (l : List Txt) : Gr := if x ∈ names g ∨ ¬ ∀ y ∈ l, y ∈ names g then g else g ++ [⟨x, (ascN l).map (idxN g)⟩]
def buildN (nodes : List (Txt × List Txt)) : Gr := nodes.foldl (fun g nd => addG g nd.1 nd.2) []
theorem buildN_snoc (nodes : List (Txt × List Txt)) (nd : Txt × List Txt) : buildN (nodes ++ [nd]) = addG (buildN nodes) nd.1 nd.2 := by unfold buildN; rw [List.foldl_append]; rfl
theorem addG_len (g : Gr) (x : Txt) (l : List Txt) : (addG g x l).length ≤ g.length + 1 := by
  unfold addG; split <;> simp
theorem buildN_len (nodes : List (Txt × List Txt)) : (buildN nodes).length ≤ nodes.length := by
  induction nodes using snoc_ind with
  | h0 => simp [buildN]
  | h1 l x ih =>
    rw [buildN_snoc]
    have := addG_len (buildN l) x.1 x.2
    simp; omega
/-- The same with parents by name. -/
def refOf (g : Gr) : List (Txt × List Txt) := g.map (fun nd => (nd.name, nd.ps.map (nmOf g)))
theorem refOf_names (g : Gr) : (refOf g).map (·.1) = names g := by unfold refOf names; rw [List.map_map]; rfl
theorem in_names {g : Gr} {x : Txt} : x ∈ names g ↔ idxN g x < g.length := idx_lt_iff.symm
theorem refOf_push {g : Gr} (hg : Good g) {x : Txt} {r : List Nat} (hr : ∀ i ∈ r, i < g.length) : refOf (g ++ [⟨x, r⟩]) = refOf g ++ [(x, r.map (nmOf g))] := by
  unfold refOf
  rw [List.map_append]
  congr 1
  · apply List.map_congr_left
    intro nd hnd
    obtain ⟨i, hi, rfl⟩ := List.getElem_of_mem hnd
    congr 1
    apply List.map_congr_left
    intro j hj
    rw [← ps_at hi] at hj
    have := (down_lt hg hj).1
    rw [nm_push, if_neg (by omega)]
  · simp only [List.map_cons, List.map_nil]
    congr 2
    apply List.map_congr_left
    intro j hj
    have := hr j hj
    rw [nm_push, if_neg (by omega)]
theorem asc_map {nm : Nat → Txt} {r : List Nat} (h : r.Pairwise (fun a b => nm a < nm b)) : Asc (r.map nm) := by
  unfold Asc; rw [List.pairwise_map]; exact h
/-- Which places the parents have. -/
theorem parents_eq {g : Gr} (hg : Good g) {l : List Txt} {r : List Nat} (ha : r.Pairwise (fun a b => nmOf g a < nmOf g b)) (hm : ∀ i, i ∈ r ↔ i ∈ l.map (idxN g)) (hall : ∀ y ∈ l, idxN g y < g.length) : r.map (nmOf g) = ascN l ∧ r = (ascN l).map (idxN g) ∧ ∀ i ∈ r, i < g.length := by
  have hr : ∀ i ∈ r, i < g.length := fun i hi => by
    obtain ⟨y, hy, rfl⟩ := List.mem_map.1 ((hm i).1 hi)
    exact hall y hy
  have e1 : r.map (nmOf g) = ascN l := asc_eq (asc_map ha) (asc_ascN l) (fun x => by
    rw [mem_ascN, List.mem_map]
    constructor
    · rintro ⟨i, hi, rfl⟩
      obtain ⟨y, hy, rfl⟩ := List.mem_map.1 ((hm i).1 hi)
      rw [nm_idx (hall y hy)]; exact hy
    · intro hx
      exact ⟨idxN g x, (hm _).2 (List.mem_map.2 ⟨x, hx, rfl⟩), nm_idx (hall x hx)⟩)
  refine ⟨e1, ?_, hr⟩
  rw [← e1, List.map_map]
  conv => lhs; rw [← List.map_id r]
  apply List.map_congr_left
  intro i hi
  show i = idxN g (nmOf g i)
  rw [idx_nm hg (hr i hi)]
theorem ps_len_push {g : Gr} {x : Txt} {l : List Txt} (h : ∀ i, (psOf g i).length ≤ 4194304) (hl : l.length ≤ 4194304) (i : Nat) : (psOf (addG g x l) i).length ≤ 4194304 := by
  unfold addG
  split
  · exact h i
  · rw [ps_push]
    split
    · rw [List.length_map]; have := ascN_len l; omega
    · exact h i
/-- What built hands back. -/
def BuiltP (w : World) (nodes : List (Txt × List Txt)) (e : Ending) (w' : World) : Prop :=
  ∃ bg bm S va D mb vw, e = .returned (.tuple #[.pointer (some ⟨bg, 0, none⟩), vw, .bool true]) ∧ GrAt w.heap.size S w' bg bm va D mb (buildN nodes) ∧ NodesC (fun q => w.heap.size ≤ q ∧ q < w'.heap.size ∧ ¬ GrDom S va q) w' vw (refOf (buildN nodes)) ∧ (∀ i, (psOf (buildN nodes) i).length ≤ 4194304) ∧ Below w.heap.size w w'
/-- What holds between two rounds. -/
structure BSt (w wr : World) (bg bm : Nat) (g : Gr) (vw : Value) : Prop where
  ex : ∃ S va D mb, GrAt w.heap.size S wr bg bm va D mb g ∧ NodesC (fun q => w.heap.size ≤ q ∧ q < wr.heap.size ∧ ¬ GrDom S va q) wr vw (refOf g)
  ps : ∀ i, (psOf g i).length ≤ 4194304
  below : Below w.heap.size w wr
theorem BSt.on {w wr w' : World} {bg bm : Nat} {g : Gr} {vw : Value} (h : BSt w wr bg bm g vw) (hb : Below wr.heap.size wr w') : BSt w w' bg bm g vw := by
  obtain ⟨S, va, D, mb, h1, h2⟩ := h.ex
  exact ⟨⟨S, va, D, mb, h1.below hb, h2.kept node_keeps (fun q hq => ⟨⟨hq.1, Nat.lt_of_lt_of_le hq.2.1 hb.size, hq.2.2⟩, hb.block q hq.2.1⟩)⟩, h.ps, h.below.trans (hb.mono h.below.size)⟩
end Go.Proofs.Ytfphkbbgbfnhaaa
