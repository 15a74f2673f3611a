/- The walks of awake and valid. -/
import Derived.Test.YthigepjddfdbmaaDoorPathI
namespace Go.Proofs.YthigepjddfdbmaaDoor
open Go.RowKit Go.Lib

def TrueP (w : World) (e : Ending) (w' : World) : Prop := e = .returned (.bool true) ∧ Below w.heap.size w w'
theorem below_one {w : World} {n : Nat} {w' : World} (h : w' = w.drewN n) : Below w.heap.size w w' := by rw [h]; exact drewn _ _ _
def sv (l : List (List UInt8)) : List Value := l.map fun x => Value.string ⟨x.toArray⟩
def OwnS (w : World) (B : Nat) (v : Value) (l : List (List UInt8)) : Prop := w.ownsRow B 9 1 v l.length (sv l)
theorem sv_append (l r : List (List UInt8)) : sv (l ++ r) = sv l ++ sv r := by unfold sv; rw [List.map_append]
theorem ownS_nil (w : World) (B : Nat) : OwnS w B (.slice none 0 0) [] := World.ownsRow_nil _ _ _ _
theorem ownS_push {w2 : World} {B : Nat} {v : Value} {l : List (List UInt8)} {x : List UInt8} (h : w2.ownsRow B 9 1 v (l.length + 1) (sv l ++ [.string ⟨x.toArray⟩])) : OwnS w2 B v (l ++ [x]) := by
  unfold OwnS
  rw [sv_append, List.length_append]; exact h
theorem srcS_one (w : World) (x : ByteArray) : Src Tryd.prog 1 30 (.slice (some ⟨w.heap.size, 0, none⟩) 1 1) 1 [.string x] (w.alloc (.cells #[.string x] 9)) :=
  Src.ofSlice _ Tryd.underlying30 _ 1 1 _ rfl (news_one _ _ _) (fun u hu => by rw [List.mem_singleton] at hu; subst hu; rfl)
theorem ownS_slice {w : World} {B : Nat} {v : Value} {l : List (List UInt8)} (h : OwnS w B v l) : ∃ a cap, v = .slice a l.length cap := by
  rcases h.2 with ⟨e, hn⟩ | ⟨g, cap, cur, e, _⟩
  · rw [hn]; exact ⟨none, 0, e⟩
  · exact ⟨_, _, e⟩
theorem ownS_c {w : World} {B : Nat} {v : Value} {l : List (List UInt8)} (h : OwnS w B v l) : StrsC (fun k => B ≤ k ∧ k < w.heap.size) w v l := by
  rcases h.2 with ⟨rfl, hn⟩ | ⟨g, cap, cur, rfl, hB, hg, hnc, hcm, _⟩
  · exact Or.inl ⟨List.length_eq_zero_iff.1 hn, none, 0, rfl⟩
  · refine Or.inr ⟨_, cap, rfl, ⟨hB, (Array.getElem?_eq_some_iff.1 hg).1⟩, hnc, fun i hi => ?_⟩
    have := World.ownsRow.cells h rfl i (.string ⟨(l.getD i []).toArray⟩) (by unfold sv; simp [List.getD, List.getElem?_eq_getElem hi])
    exact this
/-- The paths that are right. -/
def validL (l : List (List UInt8)) : List (List UInt8) := l.filter fun p => decide (checkN p = 0)
theorem validL_snoc {l : List (List UInt8)} {k : Nat} (h : k < l.length) : validL (l.take (k + 1)) = validL (l.take k) ++ (if checkN (l.getD k []) = 0 then [l.getD k []] else []) := by
  unfold validL
  rw [List.take_succ_eq_append_getElem h, List.filter_append, show l.getD k [] = l[k] by simp [List.getD, List.getElem?_eq_getElem h]]
  congr 1
  by_cases e : checkN l[k] = 0 <;> simp [e]
theorem validL_le (l : List (List UInt8)) (k : Nat) : (validL (l.take k)).length ≤ k := by
  unfold validL
  have := List.length_filter_le (fun p => decide (checkN p = 0)) (l.take k)
  rw [List.length_take] at this; omega
theorem Tryd.info9s : (Tryd.prog.info? 9).map (fun i => (i.zero, i.size, i.bytes)) = some (some (.string ByteArray.empty), 1, 16) := by kernel_rfl
end Go.Proofs.YthigepjddfdbmaaDoor
