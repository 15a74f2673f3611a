/- The files of the first path that any snapshot has left: next, its first loop. -/
import Derived.Test.YtjlpdoppnhcjoaaDoorJnI
namespace Go.Proofs.YtjlpdoppnhcjoaaDoor
open Go.RowKit Go.Lib
theorem files_zero (w : World) : (zeroValue 74).run Tryd.prog w = .ok (.agg (rowL n138 (filF noOut (fun _ => 0))).toArray) w := by rw [Tryd.zeroValue74]; kernel_rfl
attribute [local simp high] files_size outcome_size id_size n135_ne n138_ne n32_ne n34_ne outcome_zero file_size files_zero
/-- What is left of three snapshots. -/
structure Left (S : Nat → Prop) (w : World) (lb : Nat) (a : Nat → Option Addr) (c : Nat → Nat) (l : Nat → List FileN) : Prop where
  blk : RF w lb 26 3 (fun i => .slice (a i) (l i).length (c i))
  rows : ∀ i, i < 3 → FilesC S w (.slice (a i) (l i).length (c i)) (l i)
def headP (l : List FileN) : List UInt8 := (l.getD 0 noFile).path
/-- Is a head's path taken, in place of what there is? -/
def wantB (n : Nat) (hd : List UInt8) : Option (List UInt8) → Bool
  | none => decide (n ≠ 0)
  | some p => decide (n ≠ 0) && decide (cmpP hd p < 0)
def stepC (n : Nat) (hd : List UInt8) (cu : Option (List UInt8)) : Option (List UInt8) := if wantB n hd cu = true then some hd else cu
theorem stepC_none {n : Nat} (hd : List UInt8) (h : n ≠ 0) : stepC n hd none = some hd := by
  have e : wantB n hd none = true := decide_eq_true h
  unfold stepC; rw [if_pos e]
theorem stepC_less {n : Nat} {hd p : List UInt8} (h : n ≠ 0) (hc : cmpP hd p < 0) : stepC n hd (some p) = some hd := by
  have e : wantB n hd (some p) = true := by show (decide _ && decide _) = true; rw [decide_eq_true h, decide_eq_true hc]; rfl
  unfold stepC; rw [if_pos e]
theorem stepC_stay {n : Nat} {hd p : List UInt8} (hc : ¬ cmpP hd p < 0) : stepC n hd (some p) = some p := by
  have e : wantB n hd (some p) = false := by show (decide _ && decide _) = false; rw [decide_eq_false hc, Bool.and_false]
  unfold stepC; rw [if_neg (by rw [e]; decide)]
/-- The least path at the heads of the first k lists. -/
def curAt (l : Nat → List FileN) : Nat → Option (List UInt8)
  | 0 => none
  | k + 1 => stepC (l k).length (headP (l k)) (curAt l k)
theorem curAt_len {l : Nat → List FileN} (h : ∀ i, i < 3 → (l i).length ≠ 0 → (headP (l i)).length ≤ 4194304) : ∀ k, k ≤ 3 → ∀ p, curAt l k = some p → p.length ≤ 4194304
  | 0, _, _, e => by cases e
  | k + 1, hk, p, e => by
    have e2 : stepC (l k).length (headP (l k)) (curAt l k) = some p := e
    unfold stepC at e2
    split at e2
    · rename_i hw
      injection e2 with e2
      subst e2
      refine h k (by omega) (fun h0 => ?_)
      rw [h0] at hw
      cases hc : curAt l k <;> rw [hc] at hw <;> simp [wantB] at hw
    · exact curAt_len h k (by omega) p e2
def zst : Nat → Nat := fun _ => 0
def curO (l : Nat → List FileN) (k : Nat) : OutN := { noOut with path := (curAt l k).getD [] }
end Go.Proofs.YtjlpdoppnhcjoaaDoor
