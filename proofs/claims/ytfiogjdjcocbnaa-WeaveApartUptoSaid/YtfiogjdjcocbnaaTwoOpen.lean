/- Arguments opened: two slices of texts in an array. -/
import Derived.Test.YtfiogjdjcocbnaaStrOpen
import Derived.OpenShut
import Derived.WideShapes
namespace Go.Proofs.Ytfiogjdjcocbnaa
open Go.RowKit Go.ChangeShapes Go.WideShapes Go.Deep Go.Joins

section
variable {H : Type} {enc : TypeId × Value → H} {W : World}
set_option maxRecDepth 100000 in
theorem open_two {base : Nat} {v : Value} {d : DataW H} {p : List MemPlace} (hv : Value.okWide Try.prog W .any base 78 v) {fuel : Nat} (h : DataW.trod enc Try.prog W 0 (fun _ => true) true fuel 78 v.cells.toList = some (d, p)) (hlt : ∀ q ∈ p, q.block < W.heap.size) :
    ∃ (x y : Value) (lx ly : List (List UInt8)), v = .agg #[x, y] ∧ StrsC (fun k => k < W.heap.size) W x lx ∧ StrsC (fun k => k < W.heap.size) W y ly ∧ sumL lx + sumL ly ≤ Rows.uptoBulk d := by
  have hC : Try.prog.cellsOf 78 = 2 := by kernel_rfl
  have hE : Try.prog.cellsOf 24 = 1 := by kernel_rfl
  obtain ⟨cs, rfl, hsz, _⟩ : ∃ cs, v = .agg cs ∧ cs.size = Try.prog.cellsOf 78 ∧ Row.okWide Try.prog W .any base 78 cs := by
    simp only [Value.okWide, Try.underlying78] at hv
    exact hv
  rw [hC] at hsz
  obtain ⟨l⟩ := cs
  match l, hsz with
  | [c0, c1], _ =>
    have h2 : DataW.trod enc Try.prog W 0 (fun _ => true) true fuel 78 [c0, c1] = some (d, p) := by simpa [Value.cells] using h
    obtain ⟨xs, m, _, hx, _, hlen, hi⟩ := DataW.trod_array Try.underlying78 h2
    rw [hE] at hi
    match xs, hlen with
    | [y0, y1], _ =>
      have h0 : DataW.trod enc Try.prog W 0 (fun _ => true) true m 24 [c0] = some y0 := by simpa using hi 0 (by omega)
      have h1 : DataW.trod enc Try.prog W 0 (fun _ => true) true m 24 [c1] = some y1 := by simpa using hi 1 (by omega)
      injection hx with hd hp
      subst hd hp
      obtain ⟨l0, s0, b0⟩ := open_strs h0 (fun q hq => hlt q (by simp [hq]))
      obtain ⟨l1, s1, b1⟩ := open_strs h1 (fun q hq => hlt q (by simp [hq]))
      refine ⟨c0, c1, l0, l1, rfl, s0, s1, ?_⟩
      simp only [List.map_cons, List.map_nil, Rows.uptoBulk, Rows.uptoBulkAll]
      omega
end
end Go.Proofs.Ytfiogjdjcocbnaa
