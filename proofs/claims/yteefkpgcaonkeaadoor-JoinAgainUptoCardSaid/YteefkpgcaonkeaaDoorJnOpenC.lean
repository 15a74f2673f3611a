/- Arguments opened: three lists of files. -/
import Derived.Test.YteefkpgcaonkeaaDoorJnOpenB
namespace Go.Proofs.YteefkpgcaonkeaaDoor
open Go.RowKit Go.ChangeShapes Go.WideShapes Go.Deep Go.Joins
section
variable {H : Type} {enc : TypeId × Value → H} {W : World}
set_option maxRecDepth 100000 in
theorem open_left {base : Nat} {v : Value} {d : DataW H} {p : List MemPlace} (hv : Value.okWide Tryd.prog W .any base 26 v) {fuel : Nat} (h : DataW.trod enc Tryd.prog W 0 (fun _ => true) true fuel 26 v.cells.toList = some (d, p)) (hlt : ∀ x ∈ p, x.block < W.heap.size) :
    ∃ (a : Nat → Option Addr) (c : Nat → Nat) (l : Nat → List FileN), v = .agg #[.slice (a 0) (l 0).length (c 0), .slice (a 1) (l 1).length (c 1), .slice (a 2) (l 2).length (c 2)] ∧
      (∀ i, i < 3 → FilesC (fun k => k < W.heap.size) W (.slice (a i) (l i).length (c i)) (l i) ∧ ∀ f ∈ l i, f.stamp < 18446744073709551616) ∧ sumR fileB (l 0) + sumR fileB (l 1) + sumR fileB (l 2) ≤ Rows.uptoBulk d := by
  have hC : Tryd.prog.cellsOf 26 = 3 := by kernel_rfl
  have hE : Tryd.prog.cellsOf 22 = 1 := by kernel_rfl
  obtain ⟨cs, rfl, hsz, _⟩ : ∃ cs, v = .agg cs ∧ cs.size = Tryd.prog.cellsOf 26 ∧ Row.okWide Tryd.prog W .any base 26 cs := by
    simp only [Value.okWide, Tryd.underlying26] at hv
    exact hv
  rw [hC] at hsz
  obtain ⟨l⟩ := cs
  match l, hsz with
  | [x0, x1, x2], _ =>
    have hh : DataW.trod enc Tryd.prog W 0 (fun _ => true) true fuel 26 [x0, x1, x2] = some (d, p) := by simpa [Value.cells] using h
    obtain ⟨xs, m, _, hx, _, hlen, hi⟩ := DataW.trod_array Tryd.underlying26 hh
    rw [hE] at hi
    match xs, hlen with
    | [y0, y1, y2], _ =>
      have h0 : DataW.trod enc Tryd.prog W 0 (fun _ => true) true m 22 [x0] = some y0 := by simpa using hi 0 (by omega)
      have h1 : DataW.trod enc Tryd.prog W 0 (fun _ => true) true m 22 [x1] = some y1 := by simpa using hi 1 (by omega)
      have h2 : DataW.trod enc Tryd.prog W 0 (fun _ => true) true m 22 [x2] = some y2 := by simpa using hi 2 (by omega)
      injection hx with hd hp
      subst hd hp
      obtain ⟨l0, r0, b0⟩ := open_filesv h0 (fun q hq => hlt q (by simp [hq]))
      obtain ⟨l1, r1, b1⟩ := open_filesv h1 (fun q hq => hlt q (by simp [hq]))
      obtain ⟨l2, r2, b2⟩ := open_filesv h2 (fun q hq => hlt q (by simp [hq]))
      obtain ⟨a0, c0, rfl⟩ := RowsC.shape r0.1
      obtain ⟨a1, c1, rfl⟩ := RowsC.shape r1.1
      obtain ⟨a2, c2, rfl⟩ := RowsC.shape r2.1
      refine ⟨fun i => if i = 0 then a0 else if i = 1 then a1 else a2, fun i => if i = 0 then c0 else if i = 1 then c1 else c2, fun i => if i = 0 then l0 else if i = 1 then l1 else l2, rfl, fun i hi3 => ?_, ?_⟩
      · have h3 : i = 0 ∨ i = 1 ∨ i = 2 := by omega
        rcases h3 with rfl | rfl | rfl
        · exact r0
        · exact r1
        · exact r2
      · show sumR fileB l0 + sumR fileB l1 + sumR fileB l2 ≤ _
        simp only [List.map_cons, List.map_nil, Rows.uptoBulk, Rows.uptoBulkAll]
        omega
end
theorem sum_at {l : Nat → List FileN} {n : Nat} (h : sumR fileB (l 0) + sumR fileB (l 1) + sumR fileB (l 2) ≤ n) {i : Nat} (hi : i < 3) : sumR fileB (l i) ≤ n := by
  have h3 : i = 0 ∨ i = 1 ∨ i = 2 := by omega
  rcases h3 with rfl | rfl | rfl <;> omega
theorem fileB_pos (f : FileN) : 1 ≤ fileB f := by unfold fileB; omega
theorem len_at {l : Nat → List FileN} {n : Nat} (h : sumR fileB (l 0) + sumR fileB (l 1) + sumR fileB (l 2) ≤ n) (hn : n ≤ 1048576) {i : Nat} (hi : i < 3) : (l i).length ≤ 4194304 := by
  have h1 := sum_at h hi
  have h2 := sumR_len fileB_pos (l i)
  omega
end Go.Proofs.YteefkpgcaonkeaaDoor
