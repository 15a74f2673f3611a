/- Arguments opened: bytes, ints, three ints. -/
import Derived.Test.YtigiaejhjpjcmaaDoorVfP
import Derived.Deep.Slices
import Derived.Deep.Fields
import Derived.ChangeSame
import Derived.Carry
import Derived.OpenShut
import Derived.WideShapes
import Derived.Laws.FloatArith
import Derived.Lib.SmallJoins
namespace Go.Proofs.YtigiaejhjpjcmaaDoor
open Go.RowKit Go.ChangeShapes Go.WideShapes Go.Deep Go.Joins
theorem bulk_one {H : Type} (d : DataW H) : 1 ≤ Rows.uptoBulk d := by
  cases d with
  | lit l => cases l <;> simp [Rows.uptoBulk]
  | nil => simp [Rows.uptoBulk]
  | ptr d => simp [Rows.uptoBulk]
  | slice elems spare => simp [Rows.uptoBulk]
  | agg parts => simp [Rows.uptoBulk]
  | iface t d => simp [Rows.uptoBulk]
  | map entries => simp [Rows.uptoBulk]
  | held h => simp [Rows.uptoBulk]
theorem bulk_len {H : Type} (l : List (DataW H)) : l.length ≤ Rows.uptoBulkAll l := by
  induction l with
  | nil => simp [Rows.uptoBulkAll]
  | cons x r ih => have := bulk_one x; simp only [Rows.uptoBulkAll, List.length_cons]; omega
theorem bulk_slice {H : Type} (elems spare : List (DataW H)) : elems.length + 1 ≤ Rows.uptoBulk (.slice elems spare) ∧ Rows.uptoBulkAll elems + 1 ≤ Rows.uptoBulk (.slice elems spare) := by
  have h1 := bulk_len elems
  simp only [Rows.uptoBulk]
  omega
section
variable {H : Type} {enc : TypeId × Value → H} {W : World}
/-- A slice of bytes, opened. -/
theorem open_bytesv {fuel : Nat} {v : Value} {x : DataW H × List MemPlace} (h : DataW.trod enc Tryd.prog W 0 (fun _ => true) true fuel 22 [v] = some x) (hlt : ∀ p ∈ x.2, p.block < W.heap.size) :
    ∃ l, BytesC (fun k => k < W.heap.size) W v l ∧ l.length + 1 ≤ Rows.uptoBulk x.1 := by
  rcases open_slice Tryd.underlying22 h with ⟨hcs, hx⟩ | ⟨a, len, cap, m, n, D, Pl, hcs, hb, hl, hm, hmm, hx, hi⟩
  · injection hcs with hcs _
    subst hcs hx
    exact ⟨[], Or.inl ⟨rfl, rfl⟩, by simp [Rows.uptoBulk]⟩
  · injection hcs with hcs _
    subst hcs
    rw [if_pos rfl] at hmm
    subst hmm
    have hC : Tryd.prog.cellsOf 5 = 1 := by kernel_rfl
    have key : ∀ i, ∃ u : UInt8, i < len → W.cell? (a.add i) = some (.int .u8 (u.toNat : Int)) := fun i => by
      by_cases hil : i < len
      · obtain ⟨cs', hc, ht⟩ := hi i (by omega)
        obtain ⟨c, hcs', _, hwf⟩ := DataW.trod_int Tryd.underlying5 ht
        obtain ⟨_, _, hat⟩ := World.cells?_some hc
        have h1 := hat 0 (by rw [hC]; omega)
        rw [hcs', hC, Nat.mul_one] at h1
        have e0 : (a.add i).add 0 = a.add i := add_none _
        rw [e0] at h1
        obtain ⟨b1, b2⟩ := bounds_u8 hwf
        refine ⟨c.toNat.toUInt8, fun _ => ?_⟩
        rw [h1]
        have e3 : (c.toNat.toUInt8).toNat = c.toNat := by
          rw [Nat.toUInt8, UInt8.toNat_ofNat']; omega
        have e4 : ((c.toNat.toUInt8).toNat : Int) = c := by rw [e3]; exact Int.toNat_of_nonneg b1
        rw [e4]; rfl
      · exact ⟨0, fun h => absurd h hil⟩
    obtain ⟨F, hF⟩ := Classical.axiomOfChoice key
    have hlen : ((List.range len).map F).length = len := by simp
    refine ⟨(List.range len).map F, Or.inr ⟨a, m, by rw [hlen], by rw [hlen]; exact hl, hm, ?_, fun j u hj => ?_⟩, ?_⟩
    · by_cases h0 : len = 0
      · left; subst h0; rfl
      · right
        refine hlt (.cell a.block (a.off + 0)) ?_
        rw [hx]
        refine List.mem_append_left _ (MemPlace.mem_row.2 ⟨0, ?_, rfl⟩)
        rw [hC]; omega
    · have hjl : j < len := by
        have := (List.getElem?_eq_some_iff.1 hj).1
        rw [bv_len, hlen] at this; exact this
      have hu : (bv ((List.range len).map F))[j]? = some (.int .u8 ((F j).toNat : Int)) := by
        unfold bv
        rw [List.getElem?_map, List.getElem?_map, List.getElem?_range hjl]
        rfl
      rw [hu] at hj
      rw [← hj]
      exact hF j hjl
    · rw [hx, hlen]
      have := (bulk_slice ((List.range len).map D) ((List.range (m - len)).map fun j => D (len + j))).1
      simpa using this
set_option maxRecDepth 100000 in
theorem open_fate {base : Nat} {v : Value} {d : DataW H} {p : List MemPlace} (hv : Value.okWide Tryd.prog W .any base 23 v) {fuel : Nat} (h : DataW.trod enc Tryd.prog W 0 (fun _ => true) true fuel 23 v.cells.toList = some (d, p)) :
    ∃ s0 s1 s2 : Int, v = .agg #[.int .i64 s0, .int .i64 s1, .int .i64 s2] ∧ (-9223372036854775808 ≤ s0 ∧ s0 ≤ 9223372036854775807) := by
  have hC : Tryd.prog.cellsOf 23 = 3 := by kernel_rfl
  have hE : Tryd.prog.cellsOf 3 = 1 := by kernel_rfl
  obtain ⟨cs, rfl, hsz, _⟩ : ∃ cs, v = .agg cs ∧ cs.size = Tryd.prog.cellsOf 23 ∧ Row.okWide Tryd.prog W .any base 23 cs := by
    simp only [Value.okWide, Tryd.underlying23] at hv
    exact hv
  rw [hC] at hsz
  obtain ⟨l⟩ := cs
  match l, hsz with
  | [c0, c1, c2], _ =>
    have hh : DataW.trod enc Tryd.prog W 0 (fun _ => true) true fuel 23 [c0, c1, c2] = some (d, p) := by simpa [Value.cells] using h
    obtain ⟨xs, m, _, hx, _, hlen, hi⟩ := DataW.trod_array Tryd.underlying23 hh
    rw [hE] at hi
    match xs, hlen with
    | [y0, y1, y2], _ =>
      have h0 : DataW.trod enc Tryd.prog W 0 (fun _ => true) true m 3 [c0] = some y0 := by simpa using hi 0 (by omega)
      have h1 : DataW.trod enc Tryd.prog W 0 (fun _ => true) true m 3 [c1] = some y1 := by simpa using hi 1 (by omega)
      have h2 : DataW.trod enc Tryd.prog W 0 (fun _ => true) true m 3 [c2] = some y2 := by simpa using hi 2 (by omega)
      obtain ⟨s0, e0, _, w0⟩ := DataW.trod_int Tryd.underlying3 h0
      obtain ⟨s1, e1, _, w1⟩ := DataW.trod_int Tryd.underlying3 h1
      obtain ⟨s2, e2, _, w2⟩ := DataW.trod_int Tryd.underlying3 h2
      injection e0 with e0 _
      injection e1 with e1 _
      injection e2 with e2 _
      exact ⟨s0, s1, s2, by rw [e0, e1, e2], bounds_i64 w0⟩
/-- A slice of ints, opened. -/
theorem open_intsv {fuel : Nat} {v : Value} {x : DataW H × List MemPlace} (h : DataW.trod enc Tryd.prog W 0 (fun _ => true) true fuel 38 [v] = some x) (hlt : ∀ p ∈ x.2, p.block < W.heap.size) :
    ∃ l : List Int, (CellsC (fun k => k < W.heap.size) W v l.length 1 (l.map (Value.int .i64)) ∧ ∀ c ∈ l, -9223372036854775808 ≤ c ∧ c ≤ 9223372036854775807) ∧ l.length + 1 ≤ Rows.uptoBulk x.1 := by
  rcases open_slice Tryd.underlying38 h with ⟨hcs, hx⟩ | ⟨a, len, cap, m, n, D, Pl, hcs, hb, hl, hm, hmm, hx, hi⟩
  · injection hcs with hcs _
    subst hcs hx
    exact ⟨[], ⟨CellsC.nil _ _ _ _ _, fun _ h => (by cases h)⟩, by simp [Rows.uptoBulk]⟩
  · injection hcs with hcs _
    subst hcs
    rw [if_pos rfl] at hmm
    subst hmm
    have hC : Tryd.prog.cellsOf 3 = 1 := by kernel_rfl
    have key : ∀ i, ∃ u : Int, i < len → (W.cell? (a.add i) = some (.int .i64 u) ∧ -9223372036854775808 ≤ u ∧ u ≤ 9223372036854775807) := fun i => by
      by_cases hil : i < len
      · obtain ⟨cs', hc, ht⟩ := hi i (by omega)
        obtain ⟨c, hcs', _, hwf⟩ := DataW.trod_int Tryd.underlying3 ht
        obtain ⟨_, _, hat⟩ := World.cells?_some hc
        have h1 := hat 0 (by rw [hC]; omega)
        rw [hcs', hC, Nat.mul_one] at h1
        have e0 : (a.add i).add 0 = a.add i := add_none _
        rw [e0] at h1
        exact ⟨c, fun _ => ⟨h1, bounds_i64 hwf⟩⟩
      · exact ⟨0, fun h => absurd h hil⟩
    obtain ⟨F, hF⟩ := Classical.axiomOfChoice key
    have hlen : ((List.range len).map F).length = len := by simp
    have hmem : ∀ c ∈ (List.range len).map F, -9223372036854775808 ≤ c ∧ c ≤ 9223372036854775807 := fun c hc => by
      obtain ⟨i, hi2, rfl⟩ := List.mem_map.1 hc
      exact (hF i (List.mem_range.1 hi2)).2
    refine ⟨(List.range len).map F, ⟨?_, hmem⟩, ?_⟩
    · by_cases h0 : len = 0
      · subst h0; exact CellsC.nil _ _ _ _ _
      · have hsp : a.spot = none := by
          have := (hF 0 (by omega)).1
          rw [add_none] at this
          obtain ⟨b, o, sp⟩ := a
          cases sp with
          | none => rfl
          | some s =>
            exfalso
            unfold World.cell? at this
            split at this <;> simp at this
        obtain ⟨g, o, sp⟩ := a
        simp only at hsp
        subst hsp
        refine ⟨by simp, fun u hu => ?_, Or.inr ⟨g, o, m, by rw [hlen], ?_, by rw [hlen]; exact hl, hm, fun j u hj => ?_⟩⟩
        · obtain ⟨c, _, rfl⟩ := List.mem_map.1 hu
          rfl
        · refine hlt (.cell g (o + 0)) ?_
          rw [hx]
          refine List.mem_append_left _ (MemPlace.mem_row.2 ⟨0, ?_, rfl⟩)
          rw [hC]; omega
        · have hjl : j < len := by
            have := (List.getElem?_eq_some_iff.1 hj).1
            rw [List.length_map, hlen] at this; exact this
          rw [List.getElem?_map, List.getElem?_map, List.getElem?_range hjl] at hj
          have h1 := (hF j hjl).1
          rw [add_pos] at h1
          rw [h1]; exact hj
    · rw [hx, hlen]
      have := (bulk_slice ((List.range len).map D) ((List.range (m - len)).map fun j => D (len + j))).1
      simpa using this
end
end Go.Proofs.YtigiaejhjpjcmaaDoor
