/- Arguments opened: measures. -/
import Derived.Test.YtgfnlplgkgoinaaOpen
import Derived.Test.YtgfnlplgkgoinaaGearJ
namespace Go.Proofs.Ytgfnlplgkgoinaa
open Go.RowKit Go.ChangeShapes Go.WideShapes Go.Deep Go.Joins

section
variable {H : Type} {enc : TypeId × Value → H} {W : World}
theorem par_one : oneCellFields Try.prog #[{ name := "Min", type := 3, offset := 0, embedded := false, tag := "", pkgPath := "", byteOffset := 0 }, { name := "Max", type := 3, offset := 1, embedded := false, tag := "", pkgPath := "", byteOffset := 8 },
        { name := "Bits", type := 3, offset := 2, embedded := false, tag := "", pkgPath := "", byteOffset := 16 }] = true := by kernel_rfl
theorem open_par {fuel : Nat} {cs : List Value} {x : DataW H × List MemPlace} (h : DataW.trod enc Try.prog W 0 (fun _ => true) true fuel 24 cs = some x) :
    ∃ a b c : Int, cs = [.int .i64 a, .int .i64 b, .int .i64 c] := by
  obtain ⟨xs, n, _, hx, hcl, hlen, hf⟩ := DataW.trod_struct Try.underlying24 h
  have hC : Try.prog.cellsOf 24 = 3 := by kernel_rfl
  have hone := par_one
  rw [hC] at hcl
  match cs, hcl with
  | [c0, c1, c2], _ =>
    obtain ⟨o0, k0⟩ := hone_of hone 0 _ rfl
    obtain ⟨o1, k1⟩ := hone_of hone 1 _ rfl
    obtain ⟨o2, k2⟩ := hone_of hone 2 _ rfl
    have h0 : DataW.trod enc Try.prog W 0 (fun _ => true) true n 3 [c0] = xs[0]? := by have h := hf 0 _ rfl; rw [o0, k0] at h; exact h
    have h1 : DataW.trod enc Try.prog W 0 (fun _ => true) true n 3 [c1] = xs[1]? := by have h := hf 1 _ rfl; rw [o1, k1] at h; exact h
    have h2 : DataW.trod enc Try.prog W 0 (fun _ => true) true n 3 [c2] = xs[2]? := by have h := hf 2 _ rfl; rw [o2, k2] at h; exact h
    clear o0 k0 o1 k1 o2 k2
    have g : ∀ j, j < 3 → ∃ y, xs[j]? = some y := fun j hj => ⟨_, List.getElem?_eq_getElem (by rw [hlen]; exact hj)⟩
    obtain ⟨y0, e0⟩ := g 0 (by omega)
    obtain ⟨y1, e1⟩ := g 1 (by omega)
    obtain ⟨y2, e2⟩ := g 2 (by omega)
    rw [e0] at h0
    rw [e1] at h1
    rw [e2] at h2
    obtain ⟨a, a1, _, _⟩ := DataW.trod_int Try.underlying3 h0
    obtain ⟨b, b1, _, _⟩ := DataW.trod_int Try.underlying3 h1
    obtain ⟨c, c1', _, _⟩ := DataW.trod_int Try.underlying3 h2
    injection a1 with a1
    injection b1 with b1
    injection c1' with c1'
    exact ⟨a, b, c, by rw [a1, b1, c1']⟩
end
end Go.Proofs.Ytgfnlplgkgoinaa
