/- Arguments opened: a question about nodes. -/
import Derived.Test.YtfphkbbgbfnhaaaNodeOpen
namespace Go.Proofs.Ytfphkbbgbfnhaaa
open Go.RowKit Go.ChangeShapes Go.WideShapes Go.Deep Go.Joins

section
variable {H : Type} {enc : TypeId × Value → H} {W : World}
theorem ask_one : oneCellFields Try.prog #[{ name := "A", type := 9, offset := 0, embedded := false, tag := "", pkgPath := "", byteOffset := 0 }, { name := "B", type := 9, offset := 1, embedded := false, tag := "", pkgPath := "", byteOffset := 16 },
    { name := "Some", type := 23, offset := 2, embedded := false, tag := "", pkgPath := "", byteOffset := 32 }, { name := "More", type := 23, offset := 3, embedded := false, tag := "", pkgPath := "", byteOffset := 56 }] = true := by kernel_rfl
set_option maxRecDepth 100000 in
theorem open_ask {base : Nat} {v : Value} {x : DataW H × List MemPlace} (hv : Value.okWide Try.prog W .any base 25 v) {fuel : Nat} (h : DataW.trod enc Try.prog W 0 (fun _ => true) true fuel 25 v.cells.toList = some x) (hlt : ∀ p ∈ x.2, p.block < W.heap.size) :
    ∃ (a b : List UInt8) (y z : Value) (ly lz : List (List UInt8)), v = .agg #[.string ⟨a.toArray⟩, .string ⟨b.toArray⟩, y, z] ∧ StrsC (fun k => k < W.heap.size) W y ly ∧ StrsC (fun k => k < W.heap.size) W z lz ∧ a.length + b.length + sumL ly + sumL lz ≤ Rows.uptoBulk x.1 := by
  have hC : Try.prog.cellsOf 25 = 4 := by kernel_rfl
  obtain ⟨cs, rfl, hsz, _⟩ : ∃ cs, v = .agg cs ∧ cs.size = Try.prog.cellsOf 25 ∧ Row.okWide Try.prog W .any base 25 cs := by
    simp only [Value.okWide, Try.underlying25] at hv
    exact hv
  rw [hC] at hsz
  obtain ⟨l⟩ := cs
  match l, hsz with
  | [c0, c1, c2, c3], _ =>
    have hh : DataW.trod enc Try.prog W 0 (fun _ => true) true fuel 25 [c0, c1, c2, c3] = some x := by simpa [Value.cells] using h
    obtain ⟨xs, n, _, hx, hcl, hlen, hf⟩ := DataW.trod_struct Try.underlying25 hh
    have hone := ask_one
    obtain ⟨o0, k0⟩ := hone_of hone 0 _ rfl
    obtain ⟨o1, k1⟩ := hone_of hone 1 _ rfl
    obtain ⟨o2, k2⟩ := hone_of hone 2 _ rfl
    obtain ⟨o3, k3⟩ := hone_of hone 3 _ rfl
    have h0 : DataW.trod enc Try.prog W 0 (fun _ => true) true n 9 [c0] = xs[0]? := by have h := hf 0 _ rfl; rw [o0, k0] at h; exact h
    have h1 : DataW.trod enc Try.prog W 0 (fun _ => true) true n 9 [c1] = xs[1]? := by have h := hf 1 _ rfl; rw [o1, k1] at h; exact h
    have h2 : DataW.trod enc Try.prog W 0 (fun _ => true) true n 23 [c2] = xs[2]? := by have h := hf 2 _ rfl; rw [o2, k2] at h; exact h
    have h3 : DataW.trod enc Try.prog W 0 (fun _ => true) true n 23 [c3] = xs[3]? := by have h := hf 3 _ rfl; rw [o3, k3] at h; exact h
    clear o0 k0 o1 k1 o2 k2 o3 k3
    match xs, hlen with
    | [y0, y1, y2, y3], _ =>
      simp only [List.getElem?_cons_zero, List.getElem?_cons_succ] at h0 h1 h2 h3
      obtain ⟨s0, e0, rfl, _⟩ := DataW.trod_string Try.underlying9 h0
      obtain ⟨s1, e1, rfl, _⟩ := DataW.trod_string Try.underlying9 h1
      injection e0 with e0 _
      injection e1 with e1 _
      subst e0 e1 hx
      obtain ⟨l2, t2, b2⟩ := open_strs h2 (fun p hp => hlt p (by simp [hp]))
      obtain ⟨l3, t3, b3⟩ := open_strs h3 (fun p hp => hlt p (by simp [hp]))
      refine ⟨s0.data.toList, s1.data.toList, c2, c3, l2, l3, by simp, t2, t3, ?_⟩
      simp only [List.map_cons, List.map_nil, Rows.uptoBulk, Rows.uptoBulkAll]
      omega
end
end Go.Proofs.Ytfphkbbgbfnhaaa
