/- Arguments opened: a slice of texts. -/
import Derived.Test.YthigepjddfdbmaaDoorPathK
import Derived.Deep.Slices
import Derived.Deep.Fields
import Derived.ChangeSame
import Derived.Carry
import Derived.OpenShut
import Derived.Laws.FloatArith
import Derived.Lib.SmallJoins
namespace Go.Proofs.YthigepjddfdbmaaDoor
open Go.RowKit Go.ChangeShapes Go.WideShapes Go.Deep Go.Joins

section
variable {H : Type} {enc : TypeId × Value → H} {W : World}
theorem strCells : Tryd.prog.cellsOf 9 = 1 := by kernel_rfl
def textV : Value → List UInt8
  | .string s => s.data.toList
  | _ => []
theorem sum_bulk (l : List (List UInt8)) : Rows.uptoBulkAll (l.map fun x => (DataW.lit (Lit.string x) : DataW H)) = sumL l := by
  induction l with
  | nil => rfl
  | cons a r ih =>
    simp only [List.map_cons, Rows.uptoBulkAll, Rows.uptoBulk, ih, sumL_cons]
theorem open_strs {fuel : Nat} {v : Value} {x : DataW H × List MemPlace} (h : DataW.trod enc Tryd.prog W 0 (fun _ => true) true fuel 30 [v] = some x) (hlt : ∀ p ∈ x.2, p.block < W.heap.size) :
    ∃ l, StrsC (fun k => k < W.heap.size) W v l ∧ sumL l ≤ Rows.uptoBulk x.1 := by
  rcases open_slice1 Tryd.underlying30 strCells h with ⟨hcs, hx⟩ | ⟨a, len, cap, m, n, V, D, Pl, hcs, hb, hl, hm, hmm, hx, hi⟩
  · injection hcs with hcs _
    subst hcs hx
    exact ⟨[], Or.inl ⟨rfl, none, 0, rfl⟩, by simp [sumL]⟩
  · injection hcs with hcs _
    subst hcs
    rw [if_pos rfl] at hmm
    subst hmm
    have key : ∀ i, i < len → V i = .string ⟨(textV (V i)).toArray⟩ ∧ D i = .lit (.string (textV (V i))) := fun i hil => by
      obtain ⟨h1, h2⟩ := hi i (by omega)
      obtain ⟨s, hs, hd, _⟩ := DataW.trod_string Tryd.underlying9 h2
      injection hs with hs _
      injection hd with hd _
      rw [hs, hd]
      exact ⟨by simp [textV], by simp [textV]⟩
    have hlen : ((List.range len).map fun i => textV (V i)).length = len := by simp
    refine ⟨(List.range len).map fun i => textV (V i), ?_, ?_⟩
    · by_cases h0 : len = 0
      · subst h0
        exact Or.inl ⟨rfl, some a, _, rfl⟩
      · refine Or.inr ⟨a, m, by rw [hlen], ?_, by rw [hlen]; exact hl, fun i hil => ?_⟩
        · refine hlt (.cell a.block (a.off + 0)) ?_
          rw [hx]
          exact List.mem_append_left _ (MemPlace.mem_row.2 ⟨0, by omega, rfl⟩)
        · rw [hlen] at hil
          have e : ((List.range len).map fun i => textV (V i)).getD i [] = textV (V i) := by simp [List.getD, hil]
          rw [e, (hi i (by omega)).1, ← (key i hil).1]
    · rw [hx]
      simp only [Rows.uptoBulk]
      have e : (List.range len).map D = ((List.range len).map fun i => textV (V i)).map fun x => (DataW.lit (Lit.string x) : DataW H) := by
        rw [List.map_map]
        apply List.map_congr_left
        intro i hir
        exact (key i (List.mem_range.1 hir)).2
      rw [e, sum_bulk]
      omega
end
end Go.Proofs.YthigepjddfdbmaaDoor
