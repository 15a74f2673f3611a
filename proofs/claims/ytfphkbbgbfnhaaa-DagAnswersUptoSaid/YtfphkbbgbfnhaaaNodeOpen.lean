/- Arguments opened: a slice of nodes; three texts in an array. -/
import Derived.Test.YtfphkbbgbfnhaaaRecOpen
import Derived.Test.YtfphkbbgbfnhaaaDagR
namespace Go.Proofs.Ytfphkbbgbfnhaaa
open Go.RowKit Go.ChangeShapes Go.WideShapes Go.Deep Go.Joins

/-- Values and letters that a node holds, at most. -/
def nodeB (e : Txt × List Txt) : Nat := e.1.length + sumL e.2 + 1
theorem nodeB_pos (e : Txt × List Txt) : 1 ≤ nodeB e := by unfold nodeB; omega
section
variable {H : Type} {enc : TypeId × Value → H} {W : World}
theorem node_one : oneCellFields Try.prog #[{ name := "Name", type := 9, offset := 0, embedded := false, tag := "", pkgPath := "", byteOffset := 0 }, { name := "Parents", type := 23, offset := 1, embedded := false, tag := "", pkgPath := "", byteOffset := 16 }] = true := by kernel_rfl
set_option maxRecDepth 100000 in
theorem open_node {fuel : Nat} {cs : List Value} {x : DataW H × List MemPlace} (h : DataW.trod enc Try.prog W 0 (fun _ => true) true fuel 56 cs = some x) (hlt : ∀ p ∈ x.2, p.block < W.heap.size) :
    ∃ k : Txt × List Txt, nodeRel (fun k => k < W.heap.size) W k cs ∧ cs.length = 2 ∧ (∀ u ∈ cs, u.oneCell' = true) ∧ nodeB k ≤ Rows.uptoBulk x.1 := by
  obtain ⟨xs, n, _, hx, hcl, hlen, hf⟩ := DataW.trod_struct Try.underlying56 h
  have hC : Try.prog.cellsOf 56 = 2 := by kernel_rfl
  have hone := node_one
  rw [hC] at hcl
  match cs, hcl with
  | [c0, c1], _ =>
    obtain ⟨o0, k0⟩ := hone_of hone 0 _ rfl
    obtain ⟨o1, k1⟩ := hone_of hone 1 _ rfl
    have h0 : DataW.trod enc Try.prog W 0 (fun _ => true) true n 9 [c0] = xs[0]? := by have h := hf 0 _ rfl; rw [o0, k0] at h; exact h
    have h1 : DataW.trod enc Try.prog W 0 (fun _ => true) true n 23 [c1] = xs[1]? := by have h := hf 1 _ rfl; rw [o1, k1] at h; exact h
    clear o0 k0 o1 k1
    match xs, hlen with
    | [y0, y1], _ =>
      simp only [List.getElem?_cons_zero, List.getElem?_cons_succ] at h0 h1
      obtain ⟨s, hs, rfl, _⟩ := DataW.trod_string Try.underlying9 h0
      injection hs with hs _
      subst hs hx
      obtain ⟨l1, s1, b1⟩ := open_strs h1 (fun p hp => hlt p (by simp [hp]))
      obtain ⟨a1, n1, rfl⟩ := s1.shape
      obtain ⟨l0, rfl⟩ : ∃ l : List UInt8, s = ⟨l.toArray⟩ := ⟨s.data.toList, by simp⟩
      refine ⟨(l0, l1), ⟨_, rfl, s1⟩, rfl, fun u hu => ?_, ?_⟩
      · simp at hu; rcases hu with rfl | rfl <;> rfl
      · simp only [List.map_cons, List.map_nil, Rows.uptoBulk, Rows.uptoBulkAll]
        show l0.length + sumL l1 + 1 ≤ _
        have : ((⟨l0.toArray⟩ : ByteArray).data.toList).length = l0.length := by simp
        omega
theorem open_nodes {fuel : Nat} {v : Value} {x : DataW H × List MemPlace} (h : DataW.trod enc Try.prog W 0 (fun _ => true) true fuel 22 [v] = some x) (hlt : ∀ p ∈ x.2, p.block < W.heap.size) :
    ∃ l, NodesC (fun k => k < W.heap.size) W v l ∧ sumR nodeB l ≤ Rows.uptoBulk x.1 :=
  open_recs Try.underlying22 (by kernel_rfl) (by omega) nodeB (fun _ _ _ h1 h2 => open_node h1 h2) h hlt
set_option maxRecDepth 100000 in
theorem open_three {base : Nat} {v : Value} {d : DataW H} {p : List MemPlace} (hv : Value.okWide Try.prog W .any base 45 v) {fuel : Nat} (h : DataW.trod enc Try.prog W 0 (fun _ => true) true fuel 45 v.cells.toList = some (d, p)) :
    ∃ (a b c : List UInt8), v = .agg #[.string ⟨a.toArray⟩, .string ⟨b.toArray⟩, .string ⟨c.toArray⟩] ∧ a.length + b.length + c.length ≤ Rows.uptoBulk d := by
  have hC : Try.prog.cellsOf 45 = 3 := by kernel_rfl
  have hE : Try.prog.cellsOf 9 = 1 := by kernel_rfl
  obtain ⟨cs, rfl, hsz, _⟩ : ∃ cs, v = .agg cs ∧ cs.size = Try.prog.cellsOf 45 ∧ Row.okWide Try.prog W .any base 45 cs := by
    simp only [Value.okWide, Try.underlying45] at hv
    exact hv
  rw [hC] at hsz
  obtain ⟨l⟩ := cs
  match l, hsz with
  | [c0, c1, c2], _ =>
    have hh : DataW.trod enc Try.prog W 0 (fun _ => true) true fuel 45 [c0, c1, c2] = some (d, p) := by simpa [Value.cells] using h
    obtain ⟨xs, m, _, hx, _, hlen, hi⟩ := DataW.trod_array Try.underlying45 hh
    rw [hE] at hi
    match xs, hlen with
    | [y0, y1, y2], _ =>
      have h0 : DataW.trod enc Try.prog W 0 (fun _ => true) true m 9 [c0] = some y0 := by simpa using hi 0 (by omega)
      have h1 : DataW.trod enc Try.prog W 0 (fun _ => true) true m 9 [c1] = some y1 := by simpa using hi 1 (by omega)
      have h2 : DataW.trod enc Try.prog W 0 (fun _ => true) true m 9 [c2] = some y2 := by simpa using hi 2 (by omega)
      injection hx with hd hp
      subst hd hp
      obtain ⟨s0, e0, rfl, _⟩ := DataW.trod_string Try.underlying9 h0
      obtain ⟨s1, e1, rfl, _⟩ := DataW.trod_string Try.underlying9 h1
      obtain ⟨s2, e2, rfl, _⟩ := DataW.trod_string Try.underlying9 h2
      injection e0 with e0 _
      injection e1 with e1 _
      injection e2 with e2 _
      subst e0 e1 e2
      refine ⟨s0.data.toList, s1.data.toList, s2.data.toList, by simp, ?_⟩
      simp only [List.map_cons, List.map_nil, Rows.uptoBulk, Rows.uptoBulkAll]
      omega
end
end Go.Proofs.Ytfphkbbgbfnhaaa
