/- Arguments opened: an id, a slice of ids. -/
import Derived.Test.YtplbcncbljcfmaaDoorShaI
import Derived.Deep.Slices
import Derived.Deep.Fields
import Derived.ChangeSame
import Derived.Carry
import Derived.OpenShut
import Derived.Laws.FloatArith
import Derived.Lib.SmallJoins
namespace Go.Proofs.YtplbcncbljcfmaaDoor
open Go.RowKit Go.ChangeShapes Go.WideShapes Go.Deep Go.Joins

section
variable {H : Type} {enc : TypeId × Value → H} {W : World}
def byteV : Value → UInt8
  | .int _ n => UInt8.ofNat n.toNat
  | _ => 0
theorem idCells : Tryd.prog.cellsOf 25 = 32 := by kernel_rfl
theorem u8Cells : Tryd.prog.cellsOf 5 = 1 := by kernel_rfl
theorem open_id_cells {fuel : Nat} {cs : List Value} {x : DataW H × List MemPlace} (h : DataW.trod enc Tryd.prog W 0 (fun _ => true) true fuel 25 cs = some x) : ∃ l : List UInt8, l.length = 32 ∧ cs = bv l := by
  obtain ⟨xs, m, rfl, hx, hlen, hxl, hi⟩ := DataW.trod_array Tryd.under25' h
  rw [idCells] at hlen
  refine ⟨cs.map byteV, by rw [List.length_map, hlen], ?_⟩
  apply List.ext_getElem (by rw [bv_len, List.length_map])
  intro i h1 h2
  have hi32 : i < 32 := by omega
  have hm := hi i hi32
  rw [List.getElem?_eq_getElem (by omega), u8Cells, Nat.mul_one] at hm
  obtain ⟨c, hc, _, hwf⟩ := DataW.trod_int Tryd.underlying5 hm
  have hb := bounds_u8 hwf
  have e : cs[i] = .int .u8 c := by
    have h3 : ((cs.drop i).take 1)[0]? = some (.int .u8 c) := by rw [hc]; rfl
    rw [List.getElem?_take, if_pos (by omega), List.getElem?_drop, Nat.add_zero, List.getElem?_eq_getElem h1] at h3
    exact Option.some.inj h3
  have h4 := bv_getD (l := cs.map byteV) (k := i) (by rw [List.length_map]; exact h1)
  rw [List.getElem?_eq_getElem h2] at h4
  rw [Option.some.inj h4]
  have h5 : (cs.map byteV).getD i 0 = byteV cs[i] := by simp [List.getD, List.getElem?_eq_getElem h1]
  rw [h5, e]
  have e2 : (((byteV (.int .u8 c)).toNat : Nat) : Int) = c := by
    show (((UInt8.ofNat c.toNat).toNat : Nat) : Int) = c
    simp; omega
  rw [e2]
set_option maxRecDepth 100000 in
theorem open_id {v : Value} {d : DataW H} {p : List MemPlace} {base : Nat} (hv : Value.okWide Tryd.prog W .any base 25 v) (h : DataW.Trod enc Tryd.prog W 0 (fun _ => true) true 25 v d p) : ∃ l : List UInt8, l.length = 32 ∧ v = .agg (bv l).toArray := by
  simp only [Value.okWide, Tryd.under25'] at hv
  obtain ⟨cs, rfl, _⟩ := hv
  obtain ⟨fuel, hf⟩ := h
  obtain ⟨l, hl, hc⟩ := open_id_cells (cs := cs.toList) (by simpa [Value.cells] using hf)
  exact ⟨l, hl, by rw [← hc]⟩
theorem open_ids {fuel : Nat} {v : Value} {x : DataW H × List MemPlace} (h : DataW.trod enc Tryd.prog W 0 (fun _ => true) true fuel 29 [v] = some x) (hlt : ∀ p ∈ x.2, p.block < W.heap.size) :
    ∃ ts, IDsC (fun k => k < W.heap.size) W v ts ∧ ts.length ≤ 9223372036854775807 := by
  rcases open_slice Tryd.underlying29 h with ⟨hcs, hx⟩ | ⟨a, len, cap, m, n, D, Pl, hcs, hb, hl, hm, hmm, hx, hi⟩
  · injection hcs with hcs _
    subst hcs hx
    exact ⟨[], Or.inl ⟨rfl, none, 0, rfl⟩, by simp⟩
  · injection hcs with hcs _
    subst hcs
    rw [if_pos rfl] at hmm
    subst hmm
    by_cases h0 : len = 0
    · subst h0
      exact ⟨[], Or.inl ⟨rfl, some a, _, rfl⟩, by simp⟩
    · have hblk : a.block < W.heap.size := by
        refine hlt (.cell a.block (a.off + 0)) ?_
        rw [hx]
        refine List.mem_append_left _ (MemPlace.mem_row.2 ⟨0, ?_, rfl⟩)
        rw [idCells]; omega
      have key : ∀ i, i < len → ∃ l : List UInt8, l.length = 32 ∧ ∀ j (h2 : j < l.length), W.cell? ((a.add (i * n32)).add j) = some (.int .u8 (l[j].toNat : Nat)) := fun i hilt => by
        obtain ⟨cs', hc, ht⟩ := hi i (by omega)
        obtain ⟨l, hll, rfl⟩ := open_id_cells ht
        refine ⟨l, hll, fun j h2 => ?_⟩
        obtain ⟨_, _, hat⟩ := World.cells?_some hc
        have h1 := hat j (by rw [idCells]; omega)
        rw [idCells] at h1
        refine h1.trans ?_
        have := bv_getD (l := l) (k := j) h2
        rw [List.getElem?_eq_getElem (by rw [bv_len]; exact h2)] at this
        rw [← (show l.getD j 0 = l[j] by simp [List.getD, List.getElem?_eq_getElem h2]), ← this]
        simp
      have hex : ∃ ts : List (List UInt8), ts.length = len ∧ ∀ i (h : i < ts.length), ts[i].length = 32 ∧ ∀ j (h2 : j < ts[i].length), W.cell? ((a.add (i * n32)).add j) = some (.int .u8 (ts[i][j].toNat : Nat)) := by
        clear hi hx hm hl hb h
        refine ⟨(List.range len).map fun i => (List.range 32).map fun j => byteV ((W.cell? ((a.add (i * n32)).add j)).getD undef), by simp, fun i hi => ?_⟩
        have hil : i < len := by simpa using hi
        obtain ⟨l, h1, h2⟩ := key i hil
        have e : ((List.range len).map fun i => (List.range 32).map fun j => byteV ((W.cell? ((a.add (i * n32)).add j)).getD undef))[i] = l := by
          rw [List.getElem_map, List.getElem_range]
          apply List.ext_getElem (by simp [h1])
          intro j h3 h4
          rw [List.getElem_map, List.getElem_range, h2 j h4]
          show byteV (.int .u8 _) = _
          show UInt8.ofNat _ = _
          simp
        rw [e]
        exact ⟨h1, h2⟩
      obtain ⟨ts, h1, h2⟩ := hex
      subst h1
      exact ⟨ts, Or.inr ⟨a, m, rfl, hblk, hl, h2⟩, by unfold maxLen at hm; omega⟩
end
end Go.Proofs.YtplbcncbljcfmaaDoor
