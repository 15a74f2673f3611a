/- Arguments opened: a slice of texts. -/
import Derived.Test.YtaajfekolokaoaaOpen
import Derived.Test.YtaajfekolokaoaaCells
import Derived.OpenShut
namespace Go.Proofs.Ytaajfekolokaoaa
open Go.RowKit Go.ChangeShapes Go.WideShapes Go.Deep Go.Joins

section
variable {H : Type} {enc : TypeId × Value → H} {W : World}
theorem strCells : Try.prog.cellsOf 9 = 1 := by kernel_rfl
def textV : Value → List UInt8
  | .string s => s.data.toList
  | _ => []
theorem sum_bulk (l : List (List UInt8)) : Rows.uptoBulkAll (l.map fun x => (DataW.lit (Lit.string x) : DataW H)) = sumL l := by
  induction l with
  | nil => rfl
  | cons a r ih =>
    simp only [List.map_cons, Rows.uptoBulkAll, Rows.uptoBulk, ih, sumL_cons]
theorem spot_none {w : World} {a : Addr} {v : Value} (h : w.cell? a = some v) : a.spot = none := by
  obtain ⟨b, o, sp⟩ := a
  cases sp with
  | none => rfl
  | some s =>
    exfalso
    unfold World.cell? at h
    split at h <;> simp at h
theorem open_strs {fuel : Nat} {v : Value} {x : DataW H × List MemPlace} (h : DataW.trod enc Try.prog W 0 (fun _ => true) true fuel 22 [v] = some x) (hlt : ∀ p ∈ x.2, p.block < W.heap.size) :
    ∃ l, StrsC (fun k => k < W.heap.size) W v l ∧ sumL l ≤ Rows.uptoBulk x.1 := by
  rcases open_slice1 Try.underlying22 strCells h with ⟨hcs, hx⟩ | ⟨a, len, cap, m, n, V, D, Pl, hcs, hb, hl, hm, hmm, hx, hi⟩
  · injection hcs with hcs _
    subst hcs hx
    exact ⟨[], CellsC.nil _ _ _ _ _, by simp [sumL]⟩
  · injection hcs with hcs _
    subst hcs
    rw [if_pos rfl] at hmm
    subst hmm
    have key : ∀ i, i < len → V i = .string ⟨(textV (V i)).toArray⟩ ∧ D i = .lit (.string (textV (V i))) := fun i hil => by
      obtain ⟨h1, h2⟩ := hi i (by omega)
      obtain ⟨s, hs, hd, _⟩ := DataW.trod_string Try.underlying9 h2
      injection hs with hs _
      injection hd with hd _
      rw [hs, hd]
      exact ⟨by simp [textV], by simp [textV]⟩
    have hlen : ((List.range len).map fun i => textV (V i)).length = len := by simp
    refine ⟨(List.range len).map fun i => textV (V i), ?_, ?_⟩
    · by_cases h0 : len = 0
      · subst h0
        exact CellsC.nil _ _ _ _ _
      · have hsp : a.spot = none := spot_none (by have := (hi 0 (by omega)).1; rwa [add_none] at this)
        obtain ⟨g, o, sp⟩ := a
        simp only at hsp
        subst hsp
        refine ⟨by rw [sv_len, hlen]; omega, sv_one _, Or.inr ⟨g, o, m, by rw [hlen], ?_, by rw [hlen]; exact hl, hm, fun j u hj => ?_⟩⟩
        · refine hlt (.cell g (o + 0)) ?_
          rw [hx]
          exact List.mem_append_left _ (MemPlace.mem_row.2 ⟨0, by omega, rfl⟩)
        · have hjl : j < len := by
            have := (List.getElem?_eq_some_iff.1 hj).1
            rwa [sv_len, hlen] at this
          have e : ((List.range len).map fun i => textV (V i)).getD j [] = textV (V j) := by simp [List.getD, hjl]
          have h1 := (hi j (by omega)).1
          rw [add_pos] at h1
          rw [h1, (key j hjl).1]
          rw [sv_at (by rw [hlen]; exact hjl), e] at hj
          exact hj
    · rw [hx]
      simp only [Rows.uptoBulk]
      have e : (List.range len).map D = ((List.range len).map fun i => textV (V i)).map fun x => (DataW.lit (Lit.string x) : DataW H) := by
        rw [List.map_map]
        apply List.map_congr_left
        intro i hir
        exact (key i (List.mem_range.1 hir)).2
      rw [e, sum_bulk]
      omega
end
end Go.Proofs.Ytaajfekolokaoaa
