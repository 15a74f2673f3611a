/- Names, paths, folders: what is right. The walk of Join. -/
import Derived.Test.YthigepjddfdbmaaDoorPathJ
import Derived.Lib.Join
namespace Go.Proofs.YthigepjddfdbmaaDoor
open Go.RowKit Go.Lib

theorem nameB_47 {s : List UInt8} (h : nameB s = true) : (47 : UInt8) ∉ s := by
  unfold nameB at h
  simp only [Bool.and_eq_true] at h
  intro hm
  have := List.all_eq_true.1 h.2 47 hm
  revert this; decide
theorem nameB_ne {s : List UInt8} (h : nameB s = true) : s ≠ [] := by
  rintro rfl
  revert h; decide
theorem joinL_ne {l : List (List UInt8)} (hl : l ≠ []) (h : ∀ x ∈ l, nameB x = true) : joinL l ≠ [] := by
  cases l with
  | nil => exact absurd rfl hl
  | cons a r =>
    have := nameB_ne (h a List.mem_cons_self)
    simp [joinL, this]
theorem names_join {l : List (List UInt8)} (hl : l ≠ []) (h : ∀ x ∈ l, nameB x = true) : namesL (joinL l) = l := by
  unfold namesL
  rw [if_neg (joinL_ne hl h), split_join hl (fun x hx => nameB_47 (h x hx))]
theorem checkN_join {l : List (List UInt8)} (hl : l ≠ []) (h : l.all nameB = true) (h16 : l.length ≤ 16) (h255 : (joinL l).length ≤ 255) : checkN (joinL l) = 0 := by
  have ha := List.all_eq_true.1 h
  unfold checkN
  rw [names_join hl ha, if_neg (by omega), if_neg]
  rintro (e | e)
  · exact joinL_ne hl ha e
  · rw [h] at e; cases e
theorem checkN_ok {p : List UInt8} (h : checkN p = 0) : p ≠ [] ∧ (namesL p).all nameB = true ∧ (namesL p).length ≤ 16 ∧ p.length ≤ 255 := by
  unfold checkN at h
  by_cases h1 : 255 < p.length ∨ 16 < (namesL p).length
  · rw [if_pos h1] at h; exact absurd h (by decide)
  · rw [if_neg h1] at h
    by_cases h2 : p = [] ∨ (namesL p).all nameB = false
    · rw [if_pos h2] at h; exact absurd h (by decide)
    · refine ⟨fun e => h2 (Or.inl e), ?_, by omega, by omega⟩
      cases e : (namesL p).all nameB
      · exact absurd (Or.inr e) h2
      · rfl
theorem last_of (A x : List UInt8) (hx : (47 : UInt8) ∉ x) : lastIndexByte ⟨(A ++ 47 :: x).toArray⟩ 47 = (A.length : Int) := by
  have key : ∀ j (h : j < (A ++ 47 :: x).length), (((⟨(A ++ 47 :: x).toArray⟩ : ByteArray).data[j]!).toNat : Int) = (((A ++ 47 :: x)[j]).toNat : Int) := fun j h => by
    have : (⟨(A ++ 47 :: x).toArray⟩ : ByteArray).data[j]! = (A ++ 47 :: x)[j] := by
      show (A ++ 47 :: x).toArray[j]! = _
      rw [getElem!_pos _ j (by simpa using h)]; simp
    rw [this]
  have hs := lastIdx_spec ⟨(A ++ 47 :: x).toArray⟩ 47 (⟨(A ++ 47 :: x).toArray⟩ : ByteArray).size
  unfold lastIndexByte
  rw [at_size] at hs ⊢
  have hA : A.length < (A ++ 47 :: x).length := by simp
  have hAt : (A ++ 47 :: x)[A.length] = 47 := by simp
  rcases hs with ⟨_, h2⟩ | ⟨i, h1, h2, h3, h4⟩
  · exfalso
    apply h2 A.length hA
    rw [key _ hA, hAt]; rfl
  · rw [h2]
    rcases Nat.lt_trichotomy i A.length with h | h | h
    · exfalso
      apply h4 A.length h hA
      rw [key _ hA, hAt]; rfl
    · rw [h]
    · exfalso
      rw [key i h1] at h3
      have h5 : (A ++ 47 :: x)[i] = 47 := UInt8.toNat_inj.1 (by rw [show (47 : UInt8).toNat = 47 from rfl]; omega)
      rw [List.getElem_append_right (by omega)] at h5
      have h7 : (47 :: x)[i - A.length]? = some 47 := by rw [List.getElem?_eq_getElem (by simp at h1 ⊢; omega), h5]
      obtain ⟨k, hk⟩ : ∃ k, i - A.length = k + 1 := ⟨i - A.length - 1, by omega⟩
      rw [hk, List.getElem?_cons_succ] at h7
      exact hx (List.mem_of_getElem? h7)
theorem last_none {p : List UInt8} (h : (47 : UInt8) ∉ p) : lastIndexByte ⟨p.toArray⟩ 47 = -1 := by
  have hs := lastIdx_spec ⟨p.toArray⟩ 47 (⟨p.toArray⟩ : ByteArray).size
  unfold lastIndexByte
  rw [at_size] at hs ⊢
  rcases hs with ⟨h1, _⟩ | ⟨i, h1, _, h3, _⟩
  · exact h1
  · exfalso
    have : (⟨p.toArray⟩ : ByteArray).data[i]! = p[i] := by
      show p.toArray[i]! = _
      rw [getElem!_pos _ i (by simpa using h1)]; simp
    rw [this] at h3
    apply h
    have h5 : p[i] = 47 := UInt8.toNat_inj.1 (by rw [show (47 : UInt8).toNat = 47 from rfl]; omega)
    rw [← h5]; exact List.getElem_mem _
theorem parentN_join {l : List (List UInt8)} (hl : l ≠ []) {x : List UInt8} (hx : (47 : UInt8) ∉ x) : parentN (joinL (l ++ [x])) = joinL l := by
  unfold parentN
  rw [joinL_snoc l hl x, last_of _ _ hx]
  simp
theorem parentN_none {p : List UInt8} (h : (47 : UInt8) ∉ p) : parentN p = [] := by
  unfold parentN; rw [last_none h]; rfl
theorem joinL_one (x : List UInt8) : joinL [x] = x := by simp [joinL]
/-- Of a path that is right: one name, or a folder that is right, and the last name. -/
theorem path_cases {p : List UInt8} (h : checkN p = 0) : ((namesL p).length = 1 ∧ parentN p = []) ∨ ((namesL p).length ≠ 1 ∧ checkN (parentN p) = 0 ∧ underB p (parentN p) = true ∧ parentN p ++ 47 :: (namesL p).getD ((namesL p).length - 1) [] = p) := by
  obtain ⟨h1, h2, h3, h4⟩ := checkN_ok h
  have hj := join_names p
  have ha := List.all_eq_true.1 h2
  have hne : namesL p ≠ [] := by
    intro e; rw [e] at hj; exact h1 hj.symm
  generalize hL : namesL p = L at *
  have e := List.dropLast_concat_getLast hne
  have hx := ha _ (List.getLast_mem hne)
  have hgl : L.getD (L.length - 1) [] = L.getLast hne := by
    rw [List.getLast_eq_getElem]
    simp [List.getD, List.getElem?_eq_getElem (show L.length - 1 < L.length by have := List.length_pos_iff.2 hne; omega)]
  rw [hgl]
  generalize L.getLast hne = x at *
  have hlen : L.length = L.dropLast.length + 1 := by
    have := List.length_pos_iff.2 hne
    rw [List.length_dropLast]; omega
  have ha2 : ∀ y ∈ L.dropLast, nameB y = true := fun y hy => ha y (List.dropLast_subset L hy)
  by_cases hD : L.dropLast = []
  · left
    rw [hD] at e hlen
    refine ⟨hlen, ?_⟩
    rw [← hj, ← e]
    show parentN (joinL [x]) = []
    rw [joinL_one]
    exact parentN_none (nameB_47 hx)
  · right
    have hpos := List.length_pos_iff.2 hD
    have hp : parentN p = joinL L.dropLast := by
      rw [← hj, ← e]
      simp only [List.dropLast_concat]
      exact parentN_join hD (nameB_47 hx)
    have hfull : joinL L.dropLast ++ 47 :: x = p := by
      rw [← hj]
      conv => rhs; rw [← e]
      rw [joinL_snoc _ hD]
    refine ⟨by omega, ?_, ?_, by rw [hp]; exact hfull⟩
    · rw [hp]
      refine checkN_join hD (List.all_eq_true.2 ha2) (by omega) ?_
      have := congrArg List.length hfull
      simp at this; omega
    · rw [hp]
      unfold underB
      rw [if_neg (joinL_ne hD ha2)]
      refine List.isPrefixOf_iff_prefix.2 ⟨x, ?_⟩
      rw [← hfull]; simp
theorem join_eq (l : List (List UInt8)) : Lib.join l [47] = joinL l := by
  unfold Lib.join
  induction l with
  | nil => rfl
  | cons a r ih =>
    cases r with
    | nil => simp [joinL, List.intercalate]
    | cons b r =>
      rw [joinL_cons, ← ih]
      simp [List.intercalate]
/-- Bytes and texts, counted together. -/
def sumL (l : List (List UInt8)) : Nat := (l.map (fun x => x.length + 1)).sum
theorem sumL_cons (a : List UInt8) (r : List (List UInt8)) : sumL (a :: r) = a.length + 1 + sumL r := by unfold sumL; simp
theorem sumL_len (l : List (List UInt8)) : l.length ≤ sumL l := by
  induction l with
  | nil => simp
  | cons a r ih => rw [sumL_cons, List.length_cons]; omega
theorem sumL_mem (l : List (List UInt8)) : ∀ x ∈ l, x.length + 1 ≤ sumL l := by
  induction l with
  | nil => intro x hx; cases hx
  | cons a r ih =>
    intro x hx
    rw [sumL_cons]
    rcases List.mem_cons.1 hx with rfl | hx
    · omega
    · have := ih x hx; omega
theorem sumL_join (l : List (List UInt8)) : (joinL l).length ≤ sumL l := by
  induction l with
  | nil => simp [joinL]
  | cons a r ih =>
    cases r with
    | nil => rw [joinL_one, sumL_cons]; omega
    | cons b r => rw [joinL_cons, sumL_cons, List.length_append, List.length_cons]; omega
end Go.Proofs.YthigepjddfdbmaaDoor
