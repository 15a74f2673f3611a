/- Arguments opened: two numbers in an array. -/
import Derived.Test.YtkecpmhpdginpaaDoorPathOpen
import Derived.OpenShut
import Derived.WideShapes
namespace Go.Proofs.YtkecpmhpdginpaaDoor
open Go.RowKit Go.ChangeShapes Go.WideShapes Go.Deep Go.Joins

section
variable {H : Type} {enc : TypeId × Value → H} {W : World}
set_option maxRecDepth 100000 in
theorem open_pair {base : Nat} {v : Value} {d : DataW H} {p : List MemPlace} (hv : Value.okWide Tryd.prog W .any base 39 v) {fuel : Nat} (h : DataW.trod enc Tryd.prog W 0 (fun _ => true) true fuel 39 v.cells.toList = some (d, p)) :
    ∃ x y : Int, v = .agg #[.int .i64 x, .int .i64 y] := by
  have hC : Tryd.prog.cellsOf 39 = 2 := by kernel_rfl
  have hE : Tryd.prog.cellsOf 3 = 1 := by kernel_rfl
  obtain ⟨cs, rfl, hsz, _⟩ : ∃ cs, v = .agg cs ∧ cs.size = Tryd.prog.cellsOf 39 ∧ Row.okWide Tryd.prog W .any base 39 cs := by
    simp only [Value.okWide, Tryd.underlying39] at hv
    exact hv
  rw [hC] at hsz
  obtain ⟨l⟩ := cs
  match l, hsz with
  | [c0, c1], _ =>
    have h2 : DataW.trod enc Tryd.prog W 0 (fun _ => true) true fuel 39 [c0, c1] = some (d, p) := by simpa [Value.cells] using h
    obtain ⟨xs, m, _, hx, _, hlen, hi⟩ := DataW.trod_array Tryd.underlying39 h2
    rw [hE] at hi
    match xs, hlen with
    | [y0, y1], _ =>
      have h0 : DataW.trod enc Tryd.prog W 0 (fun _ => true) true m 3 [c0] = some y0 := by simpa using hi 0 (by omega)
      have h1 : DataW.trod enc Tryd.prog W 0 (fun _ => true) true m 3 [c1] = some y1 := by simpa using hi 1 (by omega)
      obtain ⟨n0, e0, _, _⟩ := DataW.trod_int Tryd.underlying3 h0
      obtain ⟨n1, e1, _, _⟩ := DataW.trod_int Tryd.underlying3 h1
      injection e0 with e0 _
      injection e1 with e1 _
      exact ⟨n0, n1, by rw [e0, e1]⟩
end
end Go.Proofs.YtkecpmhpdginpaaDoor
