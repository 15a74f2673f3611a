/- Arguments opened: an id, three times, files, three lists of files. -/
import Derived.Test.YteefkpgcaonkeaaDoorJnW
import Derived.Deep.Slices
import Derived.Deep.Fields
import Derived.ChangeSame
import Derived.Carry
import Derived.OpenShut
import Derived.WideShapes
import Derived.Laws.FloatArith
import Derived.Lib.SmallJoins
namespace Go.Proofs.YteefkpgcaonkeaaDoor
open Go.RowKit Go.ChangeShapes Go.WideShapes Go.Deep Go.Joins

section
variable {H : Type} {enc : TypeId × Value → H} {W : World}
theorem trod_float {P : Program} {w : World} {base : Nat} {spare : Nat → Bool} {held : Bool} {fuel : Nat} {t : TypeId} {cs : List Value} {x : DataW H × List MemPlace} {k : FloatKind} (ht : P.underlying t = some (.float k)) (h : DataW.trod enc P w base spare held fuel t cs = some x) : ∃ n, cs = [.float k n] ∧ x = (.lit (.float k n), []) ∧ (Lit.float k n).wf = true := by
  cases fuel with
  | zero => simp [DataW.trod] at h
  | succ n =>
    unfold DataW.trod at h
    rw [ht] at h
    split at h <;> simp_all
/-- An id's cells. -/
theorem open_idc {fuel : Nat} {cs : List Value} {x : DataW H × List MemPlace} (h : DataW.trod enc Tryd.prog W 0 (fun _ => true) true fuel 36 cs = some x) : ∃ f : Nat → UInt8, cs = bv (idL f) := by
  have hC : Tryd.prog.cellsOf 36 = 32 := by kernel_rfl
  have hE : Tryd.prog.cellsOf 5 = 1 := by kernel_rfl
  obtain ⟨xs, m, _, hx, hlen, hxl, hi⟩ := DataW.trod_array Tryd.underlying36 h
  rw [hC] at hlen
  rw [hE] at hi
  have key : ∀ i, i < 32 → ∃ u : UInt8, cs[i]? = some (.int .u8 (u.toNat : Int)) := fun i hi2 => by
    have h1 := hi i hi2
    rw [List.getElem?_eq_getElem (by omega)] at h1
    obtain ⟨n, e, _, hw⟩ := DataW.trod_int Tryd.underlying5 h1
    obtain ⟨b1, b2⟩ := bounds_u8 hw
    refine ⟨n.toNat.toUInt8, ?_⟩
    have e0 : (cs.drop (i * 1))[0]? = some (.int .u8 n) := by
      have e2 : ((cs.drop (i * 1)).take 1)[0]? = some (.int .u8 n) := by rw [e]; rfl
      rwa [List.getElem?_take, if_pos (by omega)] at e2
    rw [List.getElem?_drop, Nat.mul_one, Nat.add_zero] at e0
    rw [e0]
    have e3 : (n.toNat.toUInt8).toNat = n.toNat := by
      rw [Nat.toUInt8, UInt8.toNat_ofNat']; omega
    have e4 : ((n.toNat.toUInt8).toNat : Int) = n := by rw [e3]; exact Int.toNat_of_nonneg b1
    rw [e4]
  refine ⟨fun k => ((cs[k]?).map fun v => match v with
    | .int _ n => n.toNat.toUInt8
    | _ => 0).getD 0, ?_⟩
  apply List.ext_getElem?
  intro i
  by_cases hi2 : i < 32
  · obtain ⟨u, hu⟩ := key i hi2
    rw [hu]
    unfold bv idL
    rw [List.getElem?_map, List.getElem?_map, List.getElem?_range hi2]
    simp [hu]
  · rw [List.getElem?_eq_none (by omega), List.getElem?_eq_none (by rw [bv_len, idL_len]; omega)]
set_option maxRecDepth 100000 in
theorem open_idv {base : Nat} {v : Value} {d : DataW H} {p : List MemPlace} (hv : Value.okWide Tryd.prog W .any base 36 v) {fuel : Nat} (h : DataW.trod enc Tryd.prog W 0 (fun _ => true) true fuel 36 v.cells.toList = some (d, p)) : ∃ f : Nat → UInt8, v = .agg (bv (idL f)).toArray := by
  obtain ⟨cs, rfl, _⟩ : ∃ cs, v = .agg cs ∧ cs.size = Tryd.prog.cellsOf 36 ∧ Row.okWide Tryd.prog W .any base 36 cs := by
    simp only [Value.okWide, Tryd.underlying36] at hv
    exact hv
  obtain ⟨f, hf⟩ := open_idc h
  refine ⟨f, ?_⟩
  have e : cs.toList = bv (idL f) := by simpa [Value.cells] using hf
  rw [← e]
set_option maxRecDepth 100000 in
theorem open_times {base : Nat} {v : Value} {d : DataW H} {p : List MemPlace} (hv : Value.okWide Tryd.prog W .any base 63 v) {fuel : Nat} (h : DataW.trod enc Tryd.prog W 0 (fun _ => true) true fuel 63 v.cells.toList = some (d, p)) :
    ∃ s0 s1 s2 : Nat, v = .agg #[.float .f64 s0, .float .f64 s1, .float .f64 s2] ∧ s0 < 18446744073709551616 ∧ s1 < 18446744073709551616 ∧ s2 < 18446744073709551616 := by
  have hC : Tryd.prog.cellsOf 63 = 3 := by kernel_rfl
  have hE : Tryd.prog.cellsOf 37 = 1 := by kernel_rfl
  obtain ⟨cs, rfl, hsz, _⟩ : ∃ cs, v = .agg cs ∧ cs.size = Tryd.prog.cellsOf 63 ∧ Row.okWide Tryd.prog W .any base 63 cs := by
    simp only [Value.okWide, Tryd.underlying63] at hv
    exact hv
  rw [hC] at hsz
  obtain ⟨l⟩ := cs
  match l, hsz with
  | [c0, c1, c2], _ =>
    have hh : DataW.trod enc Tryd.prog W 0 (fun _ => true) true fuel 63 [c0, c1, c2] = some (d, p) := by simpa [Value.cells] using h
    obtain ⟨xs, m, _, hx, _, hlen, hi⟩ := DataW.trod_array Tryd.underlying63 hh
    rw [hE] at hi
    match xs, hlen with
    | [y0, y1, y2], _ =>
      have h0 : DataW.trod enc Tryd.prog W 0 (fun _ => true) true m 37 [c0] = some y0 := by simpa using hi 0 (by omega)
      have h1 : DataW.trod enc Tryd.prog W 0 (fun _ => true) true m 37 [c1] = some y1 := by simpa using hi 1 (by omega)
      have h2 : DataW.trod enc Tryd.prog W 0 (fun _ => true) true m 37 [c2] = some y2 := by simpa using hi 2 (by omega)
      obtain ⟨s0, e0, _, w0⟩ := trod_float Tryd.underlying37 h0
      obtain ⟨s1, e1, _, w1⟩ := trod_float Tryd.underlying37 h1
      obtain ⟨s2, e2, _, w2⟩ := trod_float Tryd.underlying37 h2
      injection e0 with e0 _
      injection e1 with e1 _
      injection e2 with e2 _
      refine ⟨s0, s1, s2, by rw [e0, e1, e2], ?_, ?_, ?_⟩
      · simpa [Lit.wf, FloatKind.format] using w0
      · simpa [Lit.wf, FloatKind.format] using w1
      · simpa [Lit.wf, FloatKind.format] using w2
end
end Go.Proofs.YteefkpgcaonkeaaDoor
