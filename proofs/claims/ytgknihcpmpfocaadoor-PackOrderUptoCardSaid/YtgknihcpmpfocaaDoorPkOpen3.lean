/- Arguments opened: a slice of bools. -/
import Derived.Test.YtgknihcpmpfocaaDoorPkOpen2
import Derived.Test.YtgknihcpmpfocaaDoorPkAb
import Derived.ChangeArms
namespace Go.Proofs.YtgknihcpmpfocaaDoor
open Go.RowKit Go.ChangeShapes Go.WideShapes Go.Deep Go.Joins
section
variable {H : Type} {enc : TypeId × Value → H} {W : World}
theorem boolCells : Tryd.prog.cellsOf 4 = 1 := by kernel_rfl
def boolV : Value → Bool
  | .bool b => b
  | _ => false
theorem open_bools {fuel : Nat} {v : Value} {x : DataW H × List MemPlace} (h : DataW.trod enc Tryd.prog W 0 (fun _ => true) true fuel 50 [v] = some x) (hlt : ∀ p ∈ x.2, p.block < W.heap.size) :
    ∃ l, BoolsC (fun k => k < W.heap.size) W v l ∧ l.length ≤ Rows.uptoBulk x.1 := by
  rcases open_slice1 Tryd.underlying50 boolCells h with ⟨hcs, hx⟩ | ⟨a, len, cap, m, n, V, D, Pl, hcs, hb, hl, hm, hmm, hx, hi⟩
  · injection hcs with hcs _
    subst hcs hx
    exact ⟨[], CellsC.nil _ _ _ _ _, Nat.zero_le _⟩
  · injection hcs with hcs _
    subst hcs
    rw [if_pos rfl] at hmm
    subst hmm
    have key : ∀ i, i < len → V i = .bool (boolV (V i)) := fun i hil => by
      obtain ⟨h1, h2⟩ := hi i (by omega)
      obtain ⟨s, hs, _⟩ := DataW.trod_bool Tryd.underlying4 h2
      injection hs with hs _
      rw [hs]; rfl
    have hlen : ((List.range len).map fun i => boolV (V i)).length = len := by simp
    have hbl : ∀ l : List Bool, (boolsV l).length = l.length := fun l => by unfold boolsV; simp
    refine ⟨(List.range len).map fun i => boolV (V i), ?_, ?_⟩
    · by_cases h0 : len = 0
      · subst h0
        exact CellsC.nil _ _ _ _ _
      · have hsp : a.spot = none := spot_none (by have := (hi 0 (by omega)).1; rwa [add_none] at this)
        obtain ⟨g, o, sp⟩ := a
        simp only at hsp
        subst hsp
        refine ⟨by rw [hbl, hlen]; omega, fun u hu => ?_, Or.inr ⟨g, o, m, by rw [hlen], ?_, by rw [hlen]; exact hl, hm, fun j u hj => ?_⟩⟩
        · unfold boolsV at hu
          obtain ⟨b, _, rfl⟩ := List.mem_map.1 hu
          rfl
        · refine hlt (.cell g (o + 0)) ?_
          rw [hx]
          exact List.mem_append_left _ (MemPlace.mem_row.2 ⟨0, by omega, rfl⟩)
        · have hjl : j < len := by
            have := (List.getElem?_eq_some_iff.1 hj).1
            rwa [hbl, hlen] at this
          have h1 := (hi j (by omega)).1
          rw [add_pos] at h1
          rw [h1, key j hjl]
          unfold boolsV at hj
          simp [hjl] at hj
          rw [← hj]
    · rw [hx, hlen]
      have := (bulk_slice ((List.range len).map D) ((List.range (m - len)).map fun j => D (len + j))).1
      simp at this; simp; omega
end
end Go.Proofs.YtgknihcpmpfocaaDoor
