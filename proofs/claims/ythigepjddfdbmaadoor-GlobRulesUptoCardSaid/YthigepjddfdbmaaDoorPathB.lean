/- Paths cut into names and put together. -/
import Derived.Test.YthigepjddfdbmaaDoorPathA
import Derived.Lib.SplitLaws
namespace Go.Proofs.YthigepjddfdbmaaDoor
open Go.Lib

/-- The texts between the strokes: one at least. -/
def splitL : List UInt8 → List (List UInt8)
  | [] => [[]]
  | c :: t => if c = 47 then [] :: splitL t else (c :: (splitL t).headD []) :: (splitL t).tail
theorem splitL_ne (s : List UInt8) : splitL s ≠ [] := by cases s <;> simp only [splitL]; simp; split <;> simp
theorem splitL_stroke (t : List UInt8) : splitL (47 :: t) = [] :: splitL t := by rw [splitL, if_pos rfl]
theorem splitL_cons {c : UInt8} (h : c ≠ 47) (t : List UInt8) : splitL (c :: t) = (c :: (splitL t).headD []) :: (splitL t).tail := by rw [splitL, if_neg h]
theorem splitL_shape (s : List UInt8) : ∃ h r, splitL s = h :: r := by
  cases e : splitL s with
  | nil => exact absurd e (splitL_ne s)
  | cons h r => exact ⟨h, r, rfl⟩
theorem splitL_len (s : List UInt8) : (splitL s).length = s.count 47 + 1 := by
  induction s with
  | nil => rfl
  | cons c t ih =>
    by_cases h : c = 47
    · subst h; rw [splitL_stroke, List.length_cons, ih, List.count_cons_self]
    · obtain ⟨x, r, e⟩ := splitL_shape t
      rw [splitL_cons h, List.count_cons_of_ne h, ← ih, e]; rfl
theorem index_cons_ne {c : UInt8} (h : c ≠ 47) (t : List UInt8) : index (c :: t) [47] = if index t [47] == -1 then -1 else index t [47] + 1 := by
  have hp : ([47] : List UInt8).isPrefixOf (c :: t) = false := by simp [List.isPrefixOf, Ne.symm h]
  rw [index, hp]; simp
theorem splitK_cons_ne {c : UInt8} (h : c ≠ 47) (k : Nat) (t : List UInt8) : splitK [47] 0 k (c :: t) = (c :: (splitK [47] 0 k t).headD []) :: (splitK [47] 0 k t).tail := by
  cases k with
  | zero => rfl
  | succ k =>
    rw [splitK, splitK, index_cons_ne h]
    have hg := index_ge t [47]
    by_cases hm : index t [47] = -1
    · rw [hm]; rfl
    · have hb : (index t [47] == -1) = false := by simpa using hm
      have hb2 : (index t [47] + 1 == -1) = false := by rw [beq_eq_false_iff_ne]; omega
      simp only [hb, if_false, Bool.false_eq_true, hb2, Nat.add_zero, List.headD_cons, List.tail_cons]
      obtain ⟨i, hi⟩ : ∃ i : Nat, index t [47] = (i : Int) := ⟨(index t [47]).toNat, by omega⟩
      rw [hi]
      have e1 : ((i : Int) + 1).toNat = i + 1 := by omega
      have e2 : (i : Int).toNat = i := by omega
      rw [e1, e2]
      simp [List.take_succ_cons]
theorem splitK_cons_eq (k : Nat) (t : List UInt8) : splitK [47] 0 (k + 1) (47 :: t) = [] :: splitK [47] 0 k t := by
  have hi : index (47 :: t) [47] = 0 := by rw [index]; simp [List.isPrefixOf]
  rw [splitK, hi]
  simp
theorem splitK_eq (s : List UInt8) : splitK [47] 0 (s.count 47) s = splitL s := by
  induction s with
  | nil => rfl
  | cons c t ih =>
    by_cases h : c = 47
    · subst h; rw [splitL_stroke, List.count_cons_self, splitK_cons_eq, ih]
    · rw [splitL_cons h, List.count_cons_of_ne h, splitK_cons_ne h, ih]
theorem split_eq (s : List UInt8) : Lib.split s [47] = splitL s := by
  unfold Lib.split
  rw [Lib.count_one, splitK_eq]
/-- A path's names. -/
def namesL (p : List UInt8) : List (List UInt8) := if p = [] then [] else splitL p
/-- Names put together. -/
def joinL : List (List UInt8) → List UInt8
  | [] => []
  | a :: r => a ++ r.flatMap (fun b => 47 :: b)
theorem joinL_cons (a b : List UInt8) (r : List (List UInt8)) : joinL (a :: b :: r) = a ++ 47 :: joinL (b :: r) := by
  simp [joinL]
theorem joinL_snoc (l : List (List UInt8)) (h : l ≠ []) (x : List UInt8) : joinL (l ++ [x]) = joinL l ++ 47 :: x := by
  cases l with
  | nil => exact absurd rfl h
  | cons a r => simp [joinL]
theorem join_split (s : List UInt8) : joinL (splitL s) = s := by
  induction s with
  | nil => rfl
  | cons c t ih =>
    obtain ⟨x, r, e⟩ := splitL_shape t
    by_cases h : c = 47
    · subst h
      rw [splitL_stroke, e, joinL_cons, ← e, ih]; rfl
    · rw [splitL_cons h, e]
      rw [e] at ih
      simp only [List.headD_cons, List.tail_cons, joinL, List.cons_append] at ih ⊢
      rw [ih]
theorem join_names (p : List UInt8) : joinL (namesL p) = p := by
  unfold namesL; split
  · rename_i h; rw [h]; rfl
  · exact join_split p
/-- No stroke in a text: it is its only part. -/
theorem splitL_none {s : List UInt8} (h : (47 : UInt8) ∉ s) : splitL s = [s] := by
  induction s with
  | nil => rfl
  | cons c t ih =>
    have h1 : c ≠ 47 := fun e => h (by rw [e]; exact List.mem_cons_self)
    have h2 : (47 : UInt8) ∉ t := fun e => h (List.mem_cons_of_mem _ e)
    rw [splitL_cons h1, ih h2]; rfl
theorem splitL_app {a : List UInt8} (h : (47 : UInt8) ∉ a) (t : List UInt8) : splitL (a ++ 47 :: t) = a :: splitL t := by
  induction a with
  | nil => exact splitL_stroke t
  | cons c r ih =>
    have h1 : c ≠ 47 := fun e => h (by rw [e]; exact List.mem_cons_self)
    have h2 : (47 : UInt8) ∉ r := fun e => h (List.mem_cons_of_mem _ e)
    rw [List.cons_append, splitL_cons h1, ih h2]; rfl
theorem splitL_parts (s : List UInt8) : ∀ x ∈ splitL s, (47 : UInt8) ∉ x := by
  induction s with
  | nil => intro x hx; simp [splitL] at hx; rw [hx]; simp
  | cons c t ih =>
    obtain ⟨y, r, e⟩ := splitL_shape t
    by_cases h : c = 47
    · subst h
      rw [splitL_stroke]
      intro x hx
      rcases List.mem_cons.1 hx with rfl | hx
      · simp
      · exact ih x hx
    · rw [splitL_cons h, e]
      rw [e] at ih
      intro x hx
      rcases List.mem_cons.1 hx with rfl | hx
      · intro hm
        rcases List.mem_cons.1 hm with h1 | h1
        · exact h h1.symm
        · exact ih y List.mem_cons_self h1
      · exact ih x (List.mem_cons_of_mem _ hx)
theorem split_join {l : List (List UInt8)} (hl : l ≠ []) (h : ∀ x ∈ l, (47 : UInt8) ∉ x) : splitL (joinL l) = l := by
  induction l with
  | nil => exact absurd rfl hl
  | cons a r ih =>
    cases r with
    | nil => simp [joinL]; exact splitL_none (h a List.mem_cons_self)
    | cons b r =>
      rw [joinL_cons, splitL_app (h a List.mem_cons_self), ih (by simp) (fun x hx => h x (List.mem_cons_of_mem _ hx))]
/-- Is it a name? -/
def okB (c : UInt8) : Bool := decide (32 ≤ c.toNat ∧ c.toNat ≠ 127 ∧ c ≠ 47)
def nameB (s : List UInt8) : Bool := decide (1 ≤ s.length ∧ s.length ≤ 64 ∧ s ≠ [46] ∧ s ≠ [46, 46]) && s.all okB
/-- The error's number of a path. -/
def checkN (p : List UInt8) : Int :=
  if 255 < p.length ∨ 16 < (namesL p).length then 2 else if p = [] ∨ (namesL p).all nameB = false then 50 else 0
end Go.Proofs.YthigepjddfdbmaaDoor
