/- Arguments opened: bytes. -/
import Derived.Test.YtgknihcpmpfocaaDoorVfKP
import Derived.Deep.Slices
import Derived.Deep.Fields
import Derived.ChangeSame
import Derived.Carry
import Derived.OpenShut
import Derived.WideShapes
import Derived.Laws.FloatArith
import Derived.Lib.SmallJoins
namespace Go.Proofs.YtgknihcpmpfocaaDoor
open Go.RowKit Go.ChangeShapes Go.WideShapes Go.Deep Go.Joins
theorem bulk_one {H : Type} (d : DataW H) : 1 ≤ Rows.uptoBulk d := by
  cases d with
  | lit l => cases l <;> simp [Rows.uptoBulk]
  | nil => simp [Rows.uptoBulk]
  | ptr d => simp [Rows.uptoBulk]
  | slice elems spare => simp [Rows.uptoBulk]
  | agg parts => simp [Rows.uptoBulk]
  | iface t d => simp [Rows.uptoBulk]
  | map entries => simp [Rows.uptoBulk]
  | held h => simp [Rows.uptoBulk]
theorem bulk_len {H : Type} (l : List (DataW H)) : l.length ≤ Rows.uptoBulkAll l := by
  induction l with
  | nil => simp [Rows.uptoBulkAll]
  | cons x r ih => have := bulk_one x; simp only [Rows.uptoBulkAll, List.length_cons]; omega
theorem bulk_slice {H : Type} (elems spare : List (DataW H)) : elems.length + 1 ≤ Rows.uptoBulk (.slice elems spare) ∧ Rows.uptoBulkAll elems + 1 ≤ Rows.uptoBulk (.slice elems spare) := by
  have h1 := bulk_len elems
  simp only [Rows.uptoBulk]
  omega
section
variable {H : Type} {enc : TypeId × Value → H} {W : World}
/-- A slice of bytes, opened. -/
theorem open_bytesv {fuel : Nat} {v : Value} {x : DataW H × List MemPlace} (h : DataW.trod enc Tryd.prog W 0 (fun _ => true) true fuel 22 [v] = some x) (hlt : ∀ p ∈ x.2, p.block < W.heap.size) :
    ∃ l, BytesC (fun k => k < W.heap.size) W v l ∧ l.length + 1 ≤ Rows.uptoBulk x.1 := by
  rcases open_slice Tryd.underlying22 h with ⟨hcs, hx⟩ | ⟨a, len, cap, m, n, D, Pl, hcs, hb, hl, hm, hmm, hx, hi⟩
  · injection hcs with hcs _
    subst hcs hx
    exact ⟨[], Or.inl ⟨rfl, rfl⟩, by simp [Rows.uptoBulk]⟩
  · injection hcs with hcs _
    subst hcs
    rw [if_pos rfl] at hmm
    subst hmm
    have hC : Tryd.prog.cellsOf 5 = 1 := by kernel_rfl
    have key : ∀ i, ∃ u : UInt8, i < len → W.cell? (a.add i) = some (.int .u8 (u.toNat : Int)) := fun i => by
      by_cases hil : i < len
      · obtain ⟨cs', hc, ht⟩ := hi i (by omega)
        obtain ⟨c, hcs', _, hwf⟩ := DataW.trod_int Tryd.underlying5 ht
        obtain ⟨_, _, hat⟩ := World.cells?_some hc
        have h1 := hat 0 (by rw [hC]; omega)
        rw [hcs', hC, Nat.mul_one] at h1
        have e0 : (a.add i).add 0 = a.add i := add_none _
        rw [e0] at h1
        obtain ⟨b1, b2⟩ := bounds_u8 hwf
        refine ⟨c.toNat.toUInt8, fun _ => ?_⟩
        rw [h1]
        have e3 : (c.toNat.toUInt8).toNat = c.toNat := by
          rw [Nat.toUInt8, UInt8.toNat_ofNat']; omega
        have e4 : ((c.toNat.toUInt8).toNat : Int) = c := by rw [e3]; exact Int.toNat_of_nonneg b1
        rw [e4]; rfl
      · exact ⟨0, fun h => absurd h hil⟩
    obtain ⟨F, hF⟩ := Classical.axiomOfChoice key
    have hlen : ((List.range len).map F).length = len := by simp
    refine ⟨(List.range len).map F, Or.inr ⟨a, m, by rw [hlen], by rw [hlen]; exact hl, hm, ?_, fun j u hj => ?_⟩, ?_⟩
    · by_cases h0 : len = 0
      · left; subst h0; rfl
      · right
        refine hlt (.cell a.block (a.off + 0)) ?_
        rw [hx]
        refine List.mem_append_left _ (MemPlace.mem_row.2 ⟨0, ?_, rfl⟩)
        rw [hC]; omega
    · have hjl : j < len := by
        have := (List.getElem?_eq_some_iff.1 hj).1
        rw [bv_len, hlen] at this; exact this
      have hu : (bv ((List.range len).map F))[j]? = some (.int .u8 ((F j).toNat : Int)) := by
        unfold bv
        rw [List.getElem?_map, List.getElem?_map, List.getElem?_range hjl]
        rfl
      rw [hu] at hj
      rw [← hj]
      exact hF j hjl
    · rw [hx, hlen]
      have := (bulk_slice ((List.range len).map D) ((List.range (m - len)).map fun j => D (len + j))).1
      simpa using this
end
end Go.Proofs.YtgknihcpmpfocaaDoor
