/- Records in the order in which they were added first (mathematics). -/
import Derived.Test.YtgknihcpmpfocaaDoorPkY
namespace Go.Proofs.YtgknihcpmpfocaaDoor
def accL : List (List UInt8) → List (List UInt8) → List (List UInt8)
  | A, [] => A
  | A, d :: t => accL (if (firstR A (sumN d)).isSome then A else A ++ [d]) t
/-- Each record once. -/
def recsL (l : List (List UInt8)) : List (List UInt8) := accL [] l
theorem accL_append (A a b : List (List UInt8)) : accL A (a ++ b) = accL (accL A a) b := by
  induction a generalizing A with
  | nil => rfl
  | cons r t ih => exact ih _
theorem recsL_snoc (l : List (List UInt8)) (d : List UInt8) : recsL (l ++ [d]) = if (firstR (recsL l) (sumN d)).isSome then recsL l else recsL l ++ [d] := by
  unfold recsL
  rw [accL_append]
  rfl
theorem mem_accL {A l : List (List UInt8)} {x : List UInt8} (h : x ∈ accL A l) : x ∈ A ∨ x ∈ l := by
  induction l generalizing A with
  | nil => exact Or.inl h
  | cons d t ih =>
    rcases ih h with h1 | h1
    · split at h1
      · exact Or.inl h1
      · rcases List.mem_append.1 h1 with h2 | h2
        · exact Or.inl h2
        · rw [List.mem_singleton] at h2; exact Or.inr (by rw [h2]; exact List.mem_cons_self)
    · exact Or.inr (List.mem_cons_of_mem _ h1)
theorem mem_recsL {l : List (List UInt8)} {x : List UInt8} (h : x ∈ recsL l) : x ∈ l := by
  rcases mem_accL h with h | h
  · cases h
  · exact h
theorem accL_len (A l : List (List UInt8)) : (accL A l).length ≤ A.length + l.length := by
  induction l generalizing A with
  | nil => exact Nat.le_refl _
  | cons d t ih =>
    refine Nat.le_trans (ih _) ?_
    split
    · simp only [List.length_cons]; omega
    · simp only [List.length_cons, List.length_append, List.length_nil]; omega
theorem recsL_len (l : List (List UInt8)) : (recsL l).length ≤ l.length := by
  have := accL_len [] l
  unfold recsL
  simpa using this
theorem ids_accL {A l : List (List UInt8)} {M : List (List UInt8)} (h : (idsOf A).Sublist M) : (idsOf (accL A l)).Sublist (M ++ l.map sumN) := by
  induction l generalizing A M with
  | nil =>
    rw [List.map_nil, List.append_nil]
    exact h
  | cons d t ih =>
    have h2 : (idsOf (if (firstR A (sumN d)).isSome then A else A ++ [d])).Sublist (M ++ [sumN d]) := by
      split
      · exact h.trans (List.sublist_append_left _ _)
      · rw [idsOf_snoc]
        unfold noteI
        split
        · exact h.trans (List.sublist_append_left _ _)
        · exact h.append (List.Sublist.refl _)
    have h3 := ih h2
    rw [List.append_assoc] at h3
    exact h3
theorem ids_recsL (l : List (List UInt8)) : (idsOf (recsL l)).Sublist (l.map sumN) := by
  have := ids_accL (A := []) (l := l) (M := []) (List.Sublist.refl _)
  rw [List.nil_append] at this
  exact this
theorem framesL_bound {l : List (List UInt8)} (h : ∀ x ∈ l, x.length ≤ 20000) : (framesL l).length ≤ l.length * 20012 := by
  induction l with
  | nil => exact Nat.le_refl _
  | cons d t ih =>
    rw [framesL_cons, List.length_append, frameL_len, List.length_cons]
    have h1 := ih (fun x hx => h x (List.mem_cons_of_mem _ hx))
    have h2 := h d List.mem_cons_self
    omega
/-- A file system on which nothing has failed. -/
structure OrdF (s : Fs) (m : Nat) : Prop where
  one : OneF s
  room : s.room = 4194304
  more : s.more = -1
  steps : s.steps ≤ m
theorem addR_ord {s : Fs} {m : Nat} {all : List (List UInt8)} {d : List UInt8} (ho : OrdF s m) (hr : readS s [112] = (framesL all, 0)) (hd : d.length ≤ 20000) (hlen : (framesL all).length + 20012 ≤ 4194304) (hinj : ∀ r ∈ all, sumN r = sumN d → r = d) :
    ∃ s', addR s [112] all d = (s', if (firstR all (sumN d)).isSome then all else all ++ [d], sumN d, 0) ∧ OrdF s' (m + 1) := by
  unfold addR
  rw [if_neg (by omega)]
  cases hf : firstR all (sumN d) with
  | some r =>
    obtain ⟨h1, h2⟩ := firstR_mem hf
    dsimp only
    rw [if_pos (hinj r h1 h2)]
    exact ⟨s, rfl, ⟨ho.one, ho.room, ho.more, Nat.le_succ_of_le ho.steps⟩⟩
  | none =>
    dsimp only
    have hfn : fnd s.now [112] = some 0 := by rw [ho.one]; unfold fnd; rw [if_pos rfl]
    have hu := ho.one.used hr
    have he : appendS s [112] (frameL d) = (putF (tick s) 0 ⟨(s.files.getD 0 noFi).data ++ frameL d, (s.files.getD 0 noFi).dur⟩, 0) := by
      unfold appendS
      rw [hfn]
      dsimp only
      rw [if_neg (by rw [ho.room, hu, frameL_len]; omega), if_neg (by rw [ho.more]; decide)]
    rw [he]
    rw [if_pos rfl]
    refine ⟨_, rfl, ⟨ho.one, ho.room, ?_, ?_⟩⟩
    · show (if 0 < s.more then s.more - 1 else s.more) = -1
      rw [ho.more]; decide
    · show s.steps + 1 ≤ m + 1
      have := ho.steps; omega
theorem openR_same {s : Fs} {all : List (List UInt8)} (hr : readS s [112] = (framesL all, 0)) (hl : ∀ r ∈ all, r.length ≤ 524288) : openR s [112] = (s, some all, 0) := by
  have h1 := scanL_frames hl []
  rw [List.append_nil, scanL_nil, List.append_nil] at h1
  unfold openR
  rw [hr]
  dsimp only
  rw [if_pos rfl]
  have h2 : endL (framesL all) = (framesL all).length := by unfold endL; rw [h1]
  rw [h2, if_neg (Nat.lt_irrefl _), h1]
theorem new_ord : OrdF (createS (newS 4194304) [112]).1 1 := by
  obtain ⟨h1, h2, h3⟩ := new_one 4194304
  have h : createS (newS 4194304) [112] = (chg (tick (newF (newS 4194304))) ⟨[], [112], some 0⟩, 0) := by
    unfold createS
    rw [if_neg (by decide), if_neg (by simp [newS, fnd]), if_neg (by simp [newS])]
    rfl
  refine ⟨h2, ?_, ?_, by rw [h3]; exact Nat.le_refl _⟩
  · rw [h]; rfl
  · rw [h]; rfl
/-- How the way through a list finds ids in their order. -/
theorem sub_skip {i : Nat} {M I : List (List UInt8)} {a : Nat} {x y : List UInt8} (h : (I.drop i).Sublist (M.drop a)) (hx : I[i]? = some x) (hy : M[a]? = some y) (hne : y ≠ x) : (I.drop i).Sublist (M.drop (a + 1)) := by
  obtain ⟨h1, e1⟩ := List.getElem?_eq_some_iff.1 hx
  obtain ⟨h2, e2⟩ := List.getElem?_eq_some_iff.1 hy
  rw [List.drop_eq_getElem_cons h1, List.drop_eq_getElem_cons h2, e1, e2] at h
  rw [List.drop_eq_getElem_cons h1, e1]
  cases h with
  | cons _ h => exact h
  | cons_cons _ h => exact absurd rfl hne
theorem sub_there {i : Nat} {M I : List (List UInt8)} {a : Nat} {x : List UInt8} (h : (I.drop i).Sublist (M.drop a)) (hx : I[i]? = some x) : a < M.length := by
  obtain ⟨h1, e1⟩ := List.getElem?_eq_some_iff.1 hx
  have h2 := h.length_le
  rw [List.length_drop, List.length_drop] at h2
  omega
theorem sub_next {i : Nat} {M I : List (List UInt8)} {a : Nat} (h : (I.drop i).Sublist (M.drop a)) : (I.drop (i + 1)).Sublist (M.drop a) := by
  rw [← List.drop_drop]
  exact (List.drop_sublist 1 _).trans h
end Go.Proofs.YtgknihcpmpfocaaDoor
