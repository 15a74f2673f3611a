/- Arguments opened: a slice of bytes. -/
import Derived.Test.YtdolonkeanlaoaaDoorBase
import Derived.Deep.Slices
import Derived.Deep.Fields
import Derived.ChangeSame
import Derived.Carry
import Derived.Laws.FloatArith
import Derived.Lib.SmallJoins
namespace Go.Proofs.YtdolonkeanlaoaaDoor
open Go.RowKit Go.ChangeShapes Go.WideShapes Go.Deep Go.Joins

section
variable {H : Type} {enc : TypeId × Value → H} {W : World}
theorem bulk_one {H : Type} (d : DataW H) : 1 ≤ Rows.uptoBulk d := by
  cases d with
  | lit l => cases l <;> simp [Rows.uptoBulk]
  | nil => simp [Rows.uptoBulk]
  | ptr d => simp [Rows.uptoBulk]
  | slice elems spare => simp [Rows.uptoBulk]
  | agg parts => simp [Rows.uptoBulk]
  | iface t d => simp [Rows.uptoBulk]
  | map entries => simp [Rows.uptoBulk]
  | held h => simp [Rows.uptoBulk]
theorem bulk_part {H : Type} {d : DataW H} {l : List (DataW H)} (h : d ∈ l) : Rows.uptoBulk d ≤ Rows.uptoBulkAll l := by
  induction l with
  | nil => cases h
  | cons x r ih =>
    simp only [Rows.uptoBulkAll]
    cases List.mem_cons.1 h with
    | inl e => subst e; omega
    | inr e => have := ih e; omega
theorem bulk_len {H : Type} (l : List (DataW H)) : l.length ≤ Rows.uptoBulkAll l := by
  induction l with
  | nil => simp [Rows.uptoBulkAll]
  | cons x r ih => have := bulk_one x; simp only [Rows.uptoBulkAll, List.length_cons]; omega
theorem bulk_slice {H : Type} (elems spare : List (DataW H)) : elems.length + 1 ≤ Rows.uptoBulk (.slice elems spare) ∧ Rows.uptoBulkAll elems + 1 ≤ Rows.uptoBulk (.slice elems spare) := by
  have h1 := bulk_len elems
  simp only [Rows.uptoBulk]
  omega
theorem open_bytes {fuel : Nat} {v : Value} {x : DataW H × List MemPlace} (h : DataW.trod enc Tryd.prog W 0 (fun _ => true) true fuel 22 [v] = some x) (hlt : ∀ p ∈ x.2, p.block < W.heap.size) :
    ∃ l, BytesC (fun k => k < W.heap.size) W v l ∧ l.length + 1 ≤ Rows.uptoBulk x.1 := by
  rcases open_slice Tryd.underlying22 h with ⟨hcs, hx⟩ | ⟨a, len, cap, m, n, D, Pl, hcs, hb, hl, hm, hmm, hx, hi⟩
  · injection hcs with hcs _
    subst hcs hx
    exact ⟨[], Or.inl ⟨rfl, rfl⟩, by simp [Rows.uptoBulk]⟩
  · injection hcs with hcs _
    subst hcs
    rw [if_pos rfl] at hmm
    subst hmm
    have hC : Tryd.prog.cellsOf 5 = 1 := by kernel_rfl
    have hlen : ((List.range len).map fun i => byteAt W (a.add i)).length = len := by simp
    refine ⟨(List.range len).map fun i => byteAt W (a.add i), Or.inr ⟨a, m, by rw [hlen], by rw [hlen]; exact hl, hm, ?_, fun j u hj => ?_⟩, ?_⟩
    · by_cases h0 : len = 0
      · left; subst h0; rfl
      · right
        refine hlt (.cell a.block (a.off + 0)) ?_
        rw [hx]
        refine List.mem_append_left _ (MemPlace.mem_row.2 ⟨0, ?_, rfl⟩)
        rw [hC]; omega
    · have hjl : j < len := by
        have := (List.getElem?_eq_some_iff.1 hj).1
        rw [bv_len, hlen] at this; exact this
      obtain ⟨cs', hc, ht⟩ := hi j (by omega)
      obtain ⟨c, hcs', _, hwf⟩ := DataW.trod_int Tryd.underlying5 ht
      obtain ⟨_, _, hat⟩ := World.cells?_some hc
      have h1 := hat 0 (by rw [hC]; omega)
      rw [hcs', hC, Nat.mul_one] at h1
      have e0 : (a.add j).add 0 = a.add j := add_none _
      rw [e0] at h1
      have hb := bounds_u8 hwf
      have hbyte : byteAt W (a.add j) = UInt8.ofNat c.toNat := by unfold byteAt; rw [h1]; rfl
      rw [h1]
      have hu : (bv ((List.range len).map fun i => byteAt W (a.add i)))[j]? = some (.int .u8 (byteAt W (a.add j)).toNat) := by
        unfold bv
        rw [List.getElem?_map, List.getElem?_map, List.getElem?_range hjl]
        rfl
      rw [hu] at hj
      rw [← hj, hbyte]
      have e : ((UInt8.ofNat c.toNat).toNat : Int) = c := by simp; omega
      rw [e]; rfl
    · rw [hx, hlen]
      have := (bulk_slice ((List.range len).map D) ((List.range (m - len)).map fun j => D (len + j))).1
      simpa using this
theorem list_bulk {H : Type} {xs : List (DataW H × List MemPlace)} {j : Nat} {y : DataW H × List MemPlace} (h : xs[j]? = some y) : Rows.uptoBulk y.1 + 1 ≤ Rows.uptoBulk (DataW.agg (xs.map (·.1))) := by
  have hm : y.1 ∈ xs.map (·.1) := List.mem_map.2 ⟨y, List.mem_of_getElem? h, rfl⟩
  have := bulk_part hm
  simp only [Rows.uptoBulk]; omega
theorem list_places {H : Type} {xs : List (DataW H × List MemPlace)} {j : Nat} {y : DataW H × List MemPlace} (h : xs[j]? = some y) {p : MemPlace} (hp : p ∈ y.2) : p ∈ xs.flatMap (·.2) :=
  List.mem_flatMap.2 ⟨y, List.mem_of_getElem? h, hp⟩
end
end Go.Proofs.YtdolonkeanlaoaaDoor
