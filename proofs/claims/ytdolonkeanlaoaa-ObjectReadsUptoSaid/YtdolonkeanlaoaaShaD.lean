/- Lists of ids in memory; the walk of the reference's Short. -/
import Derived.Test.YtdolonkeanlaoaaShaC
namespace Go.Proofs.Ytdolonkeanlaoaa
open Go.RowKit

attribute [local simp high] id_size id_zero
/-- A slice that holds the ids ts, in blocks of S. -/
def IDsC (S : Nat → Prop) (w : World) (v : Value) (ts : List (List UInt8)) : Prop :=
  ts = [] ∧ (∃ a c, v = .slice a 0 c) ∨ ∃ a cap, v = .slice (some a) ts.length cap ∧ S a.block ∧ ts.length ≤ cap ∧ ∀ i (h : i < ts.length), ts[i].length = 32 ∧ ∀ j (h2 : j < ts[i].length), w.cell? ((a.add (i * n32)).add j) = some (.int .u8 (ts[i][j].toNat : Nat))
theorem IDsC.shape {S : Nat → Prop} {w : World} {v : Value} {ts : List (List UInt8)} (h : IDsC S w v ts) : ∃ a cap, v = .slice a ts.length cap := by
  rcases h with ⟨rfl, a, c, rfl⟩ | ⟨a, c, rfl, _⟩
  · exact ⟨a, c, rfl⟩
  · exact ⟨some a, c, rfl⟩
theorem IDsC.kept {S S' : Nat → Prop} {w w' : World} {v : Value} {ts : List (List UInt8)} (h : IDsC S w v ts) (hk : ∀ k, S k → S' k ∧ w'.heap[k]? = w.heap[k]?) : IDsC S' w' v ts := by
  rcases h with h | ⟨a, c, h1, h2, h3, h4⟩
  · exact Or.inl h
  · refine Or.inr ⟨a, c, h1, (hk _ h2).1, h3, fun i hi => ⟨(h4 i hi).1, fun j hj => ?_⟩⟩
    rw [← (h4 i hi).2 j hj]
    unfold World.cell?
    rw [add_block, add_block, (hk _ h2).2]
theorem IDsC.cells {S : Nat → Prop} {w : World} {a : Addr} {cap : Nat} {ts : List (List UInt8)} (h : IDsC S w (.slice (some a) ts.length cap) ts) (j : Nat) (hj : j < ts.length) : (loadCellsFrom (a.add (j * n32)) 0 n32 #[]).run Try.prog w = .ok (bv (ts.getD j [])).toArray w := by
  have ej : ts.getD j [] = ts[j] := by simp [List.getD, List.getElem?_eq_getElem hj]
  rw [ej]
  rcases h with ⟨h0, _⟩ | ⟨a', c', h1, h2, h3, h4⟩
  · rw [h0] at hj; exact absurd hj (by simp)
  injection h1 with h1 _ h1c
  injection h1 with h1
  subst h1
  have := run_loadCells_list (P := Try.prog) w (a.add (j * n32)) (bv ts[j]) (fun i v hv => by
    have hi : i < ts[j].length := by
      have := (List.getElem?_eq_some_iff.1 hv).1
      rwa [bv_len] at this
    rw [(h4 j hj).2 i hi]
    have := bv_at hi
    rw [← hv, ← this]
    simp)
  have e : (bv ts[j]).length = n32 := by rw [bv_len, (h4 j hj).1]; rfl
  rw [e] at this
  simpa [loadCells] using this
theorem IDsC.len {S : Nat → Prop} {w : World} {v : Value} {ts : List (List UInt8)} (h : IDsC S w v ts) (j : Nat) (hj : j < ts.length) : (ts.getD j []).length = 32 := by
  have ej : ts.getD j [] = ts[j] := by simp [List.getD, List.getElem?_eq_getElem hj]
  rw [ej]
  rcases h with ⟨h0, _⟩ | ⟨a', c', h1, h2, h3, h4⟩
  · rw [h0] at hj; exact absurd hj (by simp)
  · exact (h4 j hj).1
def pfx (s t : List UInt8) : Nat → Nat → Nat
  | 0, k => k
  | f + 1, k => if (s.getD k 0).toNat = (t.getD k 0).toNat then pfx s t f (k + 1) else k
theorem pfx_le (s t : List UInt8) (f k : Nat) : pfx s t f k ≤ k + f := by
  induction f generalizing k with
  | zero => exact Nat.le_refl _
  | succ f ih =>
    unfold pfx
    split
    · have := ih (k + 1); omega
    · omega
def stepN (n c : Nat) : Nat := if c < 64 ∧ n < c + 1 then c + 1 else n
def shortAt (s : List UInt8) (ts : List (List UInt8)) : Nat → Nat
  | 0 => 4
  | i + 1 => stepN (shortAt s ts i) (pfx s (hexL (ts.getD i [])) 64 0)
theorem shortAt_le (s : List UInt8) (ts : List (List UInt8)) (i : Nat) : 4 ≤ shortAt s ts i ∧ shortAt s ts i ≤ 64 := by
  induction i with
  | zero => unfold shortAt; omega
  | succ i ih => unfold shortAt stepN; split <;> omega
end Go.Proofs.Ytdolonkeanlaoaa
