/- Paths as lists of bytes: one order, folders, names. Paths cut into names and put together. The order of paths, name by name. Signs below 128 in a text: rune by rune or byte by byte. The walks of alike, rank, Compare, Under, Parent. The walks of Compare, Under, Parent. The walks of Name, Split. The walks of Check, Parent, Join. The walks of Check, Parent, Join. -/
import Derived.RowKit
import Derived.Lib.SplitLaws
import GoSem.Op.String
import Derived.Shelf.GgClosure.StringsIndexFunc
import Derived.Test.YtaajfekolokaoaaBase
import Derived.Test.YtaajfekolokaoaaShelf
import Derived.Deep.QuietTactic
import Derived.BigQuiet
import Derived.Deep.MidRow
import Derived.Laws.Rows
namespace Go.Proofs.Ytaajfekolokaoaa

def rankI (c : UInt8) : Int := if c = 47 then -1 else (c.toNat : Int)
theorem rankI_inj {a b : UInt8} (h : rankI a = rankI b) : a = b := by
  unfold rankI at h
  by_cases h1 : a = 47 <;> by_cases h2 : b = 47 <;> simp only [h1, h2, if_true, if_false] at h
  · rw [h1, h2]
  · omega
  · omega
  · exact UInt8.toNat_inj.1 (by omega)
theorem rankI_47 : rankI 47 = -1 := rfl
theorem rankI_ge {a : UInt8} (h : a ≠ 47) : 0 ≤ rankI a := by unfold rankI; rw [if_neg h]; omega
/-- cmp.Compare of two integers. -/
def sgn (x y : Int) : Int := if x < y then -1 else if y < x then 1 else 0
/-- With how many same bytes two texts begin. -/
def alikeN : List UInt8 → List UInt8 → Nat
  | a :: u, b :: v => if a = b then alikeN u v + 1 else 0
  | [], _ => 0
  | _ :: _, [] => 0
theorem alikeN_le (a b : List UInt8) : alikeN a b ≤ a.length ∧ alikeN a b ≤ b.length := by
  induction a generalizing b with
  | nil => cases b <;> simp [alikeN]
  | cons x xs ih =>
    cases b with
    | nil => simp [alikeN]
    | cons y ys =>
      have := ih ys
      unfold alikeN; split <;> simp <;> omega
theorem alikeN_same (a b : List UInt8) (k : Nat) (h : k < alikeN a b) : a.getD k 0 = b.getD k 0 := by
  induction a generalizing b k with
  | nil => cases b <;> simp [alikeN] at h
  | cons x xs ih =>
    cases b with
    | nil => simp [alikeN] at h
    | cons y ys =>
      unfold alikeN at h
      split at h
      · rename_i hxy
        cases k with
        | zero => simp [hxy]
        | succ k => simpa using ih ys k (by omega)
      · omega
theorem alikeN_stop (a b : List UInt8) (h1 : alikeN a b < a.length) (h2 : alikeN a b < b.length) : a.getD (alikeN a b) 0 ≠ b.getD (alikeN a b) 0 := by
  induction a generalizing b with
  | nil => simp at h1
  | cons x xs ih =>
    cases b with
    | nil => simp at h2
    | cons y ys =>
      by_cases hxy : x = y
      · have e : alikeN (x :: xs) (y :: ys) = alikeN xs ys + 1 := by rw [alikeN, if_pos hxy]
        rw [e] at h1 h2 ⊢
        simp only [List.length_cons] at h1 h2
        simpa using ih ys (by omega) (by omega)
      · have e : alikeN (x :: xs) (y :: ys) = 0 := by rw [alikeN, if_neg hxy]
        rw [e]; simpa using hxy
theorem alikeN_unique {a b : List UInt8} {k : Nat} (h1 : k ≤ a.length) (h2 : k ≤ b.length) (h3 : ∀ j, j < k → a.getD j 0 = b.getD j 0) (h4 : k = a.length ∨ k = b.length ∨ a.getD k 0 ≠ b.getD k 0) : alikeN a b = k := by
  have hl := alikeN_le a b
  rcases Nat.lt_trichotomy (alikeN a b) k with h | h | h
  · exact absurd (h3 _ h) (alikeN_stop a b (by omega) (by omega))
  · exact h
  · rcases h4 with h4 | h4 | h4
    · omega
    · omega
    · exact absurd (alikeN_same a b k h) h4
/-- What Compare answers, as it reckons. -/
def cmpL (a b : List UInt8) : Int := if alikeN a b = a.length ∨ alikeN a b = b.length then sgn a.length b.length else sgn (rankI (a.getD (alikeN a b) 0)) (rankI (b.getD (alikeN a b) 0))
def cmpP : List UInt8 → List UInt8 → Int
  | [], [] => 0
  | [], _ :: _ => -1
  | _ :: _, [] => 1
  | a :: u, b :: v => if a = b then cmpP u v else if rankI a < rankI b then -1 else 1
theorem cmpL_eq (a b : List UInt8) : cmpL a b = cmpP a b := by
  induction a generalizing b with
  | nil =>
    cases b with
    | nil => rfl
    | cons y ys =>
      have e : alikeN [] (y :: ys) = 0 := rfl
      unfold cmpL sgn; rw [e, if_pos (by simp), if_pos (by simp <;> omega), cmpP]
  | cons x xs ih =>
    cases b with
    | nil =>
      have e : alikeN (x :: xs) [] = 0 := rfl
      unfold cmpL sgn; rw [e, if_pos (by simp), if_neg (by simp <;> omega), if_pos (by simp <;> omega), cmpP]
    | cons y ys =>
      rw [cmpP]
      by_cases hxy : x = y
      · rw [if_pos hxy, ← ih ys]
        have e : alikeN (x :: xs) (y :: ys) = alikeN xs ys + 1 := by rw [alikeN, if_pos hxy]
        unfold cmpL
        rw [e]
        simp only [List.length_cons, List.getD_cons_succ]
        by_cases h : alikeN xs ys = xs.length ∨ alikeN xs ys = ys.length
        · rw [if_pos h, if_pos (by omega)]
          unfold sgn
          by_cases h1 : xs.length < ys.length
          · rw [if_pos (by omega), if_pos (by omega)]
          · rw [if_neg (by omega)]
            conv => rhs; rw [if_neg (by omega)]
            by_cases h2 : ys.length < xs.length
            · rw [if_pos (by omega), if_pos (by omega)]
            · rw [if_neg (by omega), if_neg (by omega)]
        · rw [if_neg h, if_neg (by omega)]
      · rw [if_neg hxy]
        have e : alikeN (x :: xs) (y :: ys) = 0 := by rw [alikeN, if_neg hxy]
        unfold cmpL
        rw [e, if_neg (by simp)]
        simp only [List.getD_cons_zero]
        have hr : rankI x ≠ rankI y := fun h => hxy (rankI_inj h)
        unfold sgn
        split
        · rfl
        · rw [if_pos (by omega)]
theorem cmpP_self (a : List UInt8) : cmpP a a = 0 := by
  induction a with
  | nil => rfl
  | cons x xs ih => rw [cmpP, if_pos rfl, ih]
theorem cmpP_cases (a b : List UInt8) : cmpP a b = -1 ∨ cmpP a b = 0 ∨ cmpP a b = 1 := by
  induction a generalizing b with
  | nil => cases b <;> simp [cmpP]
  | cons x xs ih =>
    cases b with
    | nil => simp [cmpP]
    | cons y ys =>
      rw [cmpP]
      split
      · exact ih ys
      · split <;> simp
theorem cmpP_neg (a b : List UInt8) : cmpP a b = - cmpP b a := by
  induction a generalizing b with
  | nil => cases b <;> simp [cmpP]
  | cons x xs ih =>
    cases b with
    | nil => simp [cmpP]
    | cons y ys =>
      rw [cmpP, cmpP]
      by_cases h : x = y
      · rw [if_pos h, if_pos h.symm]; exact ih ys
      · have hr : rankI x ≠ rankI y := fun e => h (rankI_inj e)
        have h' : ¬ y = x := fun e => h e.symm
        rw [if_neg h, if_neg h']
        by_cases h1 : rankI x < rankI y
        · rw [if_pos h1, if_neg (by omega)]
        · rw [if_neg h1, if_pos (by omega)]; rfl
theorem cmpP_zero (a b : List UInt8) : cmpP a b = 0 ↔ a = b := by
  constructor
  · intro h
    induction a generalizing b with
    | nil => cases b <;> simp [cmpP] at h ⊢
    | cons x xs ih =>
      cases b with
      | nil => simp [cmpP] at h
      | cons y ys =>
        rw [cmpP] at h
        by_cases e : x = y
        · rw [if_pos e] at h; rw [e, ih ys h]
        · rw [if_neg e] at h; split at h <;> omega
  · rintro rfl; exact cmpP_self _
theorem cmpP_trans (a b c : List UInt8) (h1 : cmpP a b ≤ 0) (h2 : cmpP b c ≤ 0) : cmpP a c ≤ 0 := by
  induction a generalizing b c with
  | nil => cases c <;> simp [cmpP]
  | cons x xs ih =>
    cases b with
    | nil => simp [cmpP] at h1
    | cons y ys =>
      cases c with
      | nil => simp [cmpP] at h2
      | cons z zs =>
        rw [cmpP] at h1 h2 ⊢
        by_cases exy : x = y
        · rw [if_pos exy] at h1
          by_cases eyz : y = z
          · rw [if_pos eyz] at h2
            rw [if_pos (exy.trans eyz)]; exact ih ys zs h1 h2
          · rw [if_neg eyz] at h2
            have hxz : x ≠ z := by rw [exy]; exact eyz
            rw [if_neg hxz, exy]; exact h2
        · rw [if_neg exy] at h1
          have lxy : rankI x < rankI y := by
            by_cases h : rankI x < rankI y
            · exact h
            · rw [if_neg h] at h1; omega
          by_cases eyz : y = z
          · rw [← eyz, if_neg exy, if_pos lxy]; omega
          · rw [if_neg eyz] at h2
            have lyz : rankI y < rankI z := by
              by_cases h : rankI y < rankI z
              · exact h
              · rw [if_neg h] at h2; omega
            have hxz : x ≠ z := fun e => by rw [e] at lxy; omega
            rw [if_neg hxz, if_pos (by omega)]; omega
/-- Does p lie within a folder? -/
def underB (p f : List UInt8) : Bool := if f = [] then decide (p ≠ []) else (f ++ [47]).isPrefixOf p
theorem isPrefix_split {f p : List UInt8} (h : f.isPrefixOf p = true) : ∃ r, p = f ++ r := by
  obtain ⟨r, hr⟩ := List.isPrefixOf_iff_prefix.1 h
  exact ⟨r, hr.symm⟩
theorem isPrefix_app (f r : List UInt8) : f.isPrefixOf (f ++ r) = true := List.isPrefixOf_iff_prefix.2 ⟨r, rfl⟩
theorem cmpP_app (b : List UInt8) (x : UInt8) (r : List UInt8) : cmpP (b ++ x :: r) b = 1 := by
  induction b with
  | nil => rfl
  | cons y ys ih => rw [List.cons_append, cmpP, if_pos rfl, ih]
theorem under_one {a b : List UInt8} (h : underB a b = true) : cmpP a b = 1 := by
  unfold underB at h
  by_cases hb : b = []
  · rw [if_pos hb] at h
    have := of_decide_eq_true h
    subst hb
    cases a with
    | nil => exact absurd rfl this
    | cons x xs => rfl
  · rw [if_neg hb] at h
    obtain ⟨r, rfl⟩ := isPrefix_split h
    rw [List.append_assoc]
    exact cmpP_app b 47 r
theorem cmpP_wedge (b c r : List UInt8) (h1 : cmpP b c < 0) (h2 : (b ++ [47]).isPrefixOf c = false) : cmpP (b ++ 47 :: r) c < 0 := by
  induction b generalizing c with
  | nil =>
    cases c with
    | nil => simp [cmpP] at h1
    | cons z zs =>
      have hz : z ≠ 47 := by
        intro e; subst e
        simp [List.isPrefixOf] at h2
      rw [List.nil_append, cmpP, if_neg (fun e => hz e.symm), if_pos (by have := rankI_ge hz; rw [rankI_47]; omega)]; omega
  | cons y ys ih =>
    cases c with
    | nil => simp [cmpP] at h1
    | cons z zs =>
      rw [cmpP] at h1
      rw [List.cons_append, cmpP]
      by_cases e : y = z
      · rw [if_pos e] at h1 ⊢
        refine ih zs h1 ?_
        subst e
        simpa [List.isPrefixOf] using h2
      · rw [if_neg e] at h1 ⊢; exact h1
theorem under_wedge {a b c : List UInt8} (h1 : underB a b = true) (h2 : underB c b = false) (h3 : cmpP b c < 0) : cmpP a c < 0 := by
  unfold underB at h1 h2
  by_cases hb : b = []
  · rw [if_pos hb] at h2
    subst hb
    have : c = [] := by simpa using h2
    subst this
    simp [cmpP] at h3
  · rw [if_neg hb] at h1 h2
    obtain ⟨r, rfl⟩ := isPrefix_split h1
    rw [List.append_assoc]
    exact cmpP_wedge b c r h3 h2
end Go.Proofs.Ytaajfekolokaoaa
namespace Go.Proofs.Ytaajfekolokaoaa
open Go.Lib

/-- The texts between the strokes: one at least. -/
def splitL : List UInt8 → List (List UInt8)
  | [] => [[]]
  | c :: t => if c = 47 then [] :: splitL t else (c :: (splitL t).headD []) :: (splitL t).tail
theorem splitL_ne (s : List UInt8) : splitL s ≠ [] := by cases s <;> simp only [splitL]; simp; split <;> simp
theorem splitL_stroke (t : List UInt8) : splitL (47 :: t) = [] :: splitL t := by rw [splitL, if_pos rfl]
theorem splitL_cons {c : UInt8} (h : c ≠ 47) (t : List UInt8) : splitL (c :: t) = (c :: (splitL t).headD []) :: (splitL t).tail := by rw [splitL, if_neg h]
theorem splitL_shape (s : List UInt8) : ∃ h r, splitL s = h :: r := by
  cases e : splitL s with
  | nil => exact absurd e (splitL_ne s)
  | cons h r => exact ⟨h, r, rfl⟩
theorem splitL_len (s : List UInt8) : (splitL s).length = s.count 47 + 1 := by
  induction s with
  | nil => rfl
  | cons c t ih =>
    by_cases h : c = 47
    · subst h; rw [splitL_stroke, List.length_cons, ih, List.count_cons_self]
    · obtain ⟨x, r, e⟩ := splitL_shape t
      rw [splitL_cons h, List.count_cons_of_ne h, ← ih, e]; rfl
theorem index_cons_ne {c : UInt8} (h : c ≠ 47) (t : List UInt8) : index (c :: t) [47] = if index t [47] == -1 then -1 else index t [47] + 1 := by
  have hp : ([47] : List UInt8).isPrefixOf (c :: t) = false := by simp [List.isPrefixOf, Ne.symm h]
  rw [index, hp]; simp
theorem splitK_cons_ne {c : UInt8} (h : c ≠ 47) (k : Nat) (t : List UInt8) : splitK [47] 0 k (c :: t) = (c :: (splitK [47] 0 k t).headD []) :: (splitK [47] 0 k t).tail := by
  cases k with
  | zero => rfl
  | succ k =>
    rw [splitK, splitK, index_cons_ne h]
    have hg := index_ge t [47]
    by_cases hm : index t [47] = -1
    · rw [hm]; rfl
    · have hb : (index t [47] == -1) = false := by simpa using hm
      have hb2 : (index t [47] + 1 == -1) = false := by rw [beq_eq_false_iff_ne]; omega
      simp only [hb, if_false, Bool.false_eq_true, hb2, Nat.add_zero, List.headD_cons, List.tail_cons]
      obtain ⟨i, hi⟩ : ∃ i : Nat, index t [47] = (i : Int) := ⟨(index t [47]).toNat, by omega⟩
      rw [hi]
      have e1 : ((i : Int) + 1).toNat = i + 1 := by omega
      have e2 : (i : Int).toNat = i := by omega
      rw [e1, e2]
      simp [List.take_succ_cons]
theorem splitK_cons_eq (k : Nat) (t : List UInt8) : splitK [47] 0 (k + 1) (47 :: t) = [] :: splitK [47] 0 k t := by
  have hi : index (47 :: t) [47] = 0 := by rw [index]; simp [List.isPrefixOf]
  rw [splitK, hi]
  simp
theorem splitK_eq (s : List UInt8) : splitK [47] 0 (s.count 47) s = splitL s := by
  induction s with
  | nil => rfl
  | cons c t ih =>
    by_cases h : c = 47
    · subst h; rw [splitL_stroke, List.count_cons_self, splitK_cons_eq, ih]
    · rw [splitL_cons h, List.count_cons_of_ne h, splitK_cons_ne h, ih]
theorem split_eq (s : List UInt8) : Lib.split s [47] = splitL s := by
  unfold Lib.split
  rw [Lib.count_one, splitK_eq]
/-- A path's names. -/
def namesL (p : List UInt8) : List (List UInt8) := if p = [] then [] else splitL p
/-- Names put together. -/
def joinL : List (List UInt8) → List UInt8
  | [] => []
  | a :: r => a ++ r.flatMap (fun b => 47 :: b)
theorem joinL_cons (a b : List UInt8) (r : List (List UInt8)) : joinL (a :: b :: r) = a ++ 47 :: joinL (b :: r) := by
  simp [joinL]
theorem joinL_snoc (l : List (List UInt8)) (h : l ≠ []) (x : List UInt8) : joinL (l ++ [x]) = joinL l ++ 47 :: x := by
  cases l with
  | nil => exact absurd rfl h
  | cons a r => simp [joinL]
theorem join_split (s : List UInt8) : joinL (splitL s) = s := by
  induction s with
  | nil => rfl
  | cons c t ih =>
    obtain ⟨x, r, e⟩ := splitL_shape t
    by_cases h : c = 47
    · subst h
      rw [splitL_stroke, e, joinL_cons, ← e, ih]; rfl
    · rw [splitL_cons h, e]
      rw [e] at ih
      simp only [List.headD_cons, List.tail_cons, joinL, List.cons_append] at ih ⊢
      rw [ih]
theorem join_names (p : List UInt8) : joinL (namesL p) = p := by
  unfold namesL; split
  · rename_i h; rw [h]; rfl
  · exact join_split p
/-- No stroke in a text: it is its only part. -/
theorem splitL_none {s : List UInt8} (h : (47 : UInt8) ∉ s) : splitL s = [s] := by
  induction s with
  | nil => rfl
  | cons c t ih =>
    have h1 : c ≠ 47 := fun e => h (by rw [e]; exact List.mem_cons_self)
    have h2 : (47 : UInt8) ∉ t := fun e => h (List.mem_cons_of_mem _ e)
    rw [splitL_cons h1, ih h2]; rfl
theorem splitL_app {a : List UInt8} (h : (47 : UInt8) ∉ a) (t : List UInt8) : splitL (a ++ 47 :: t) = a :: splitL t := by
  induction a with
  | nil => exact splitL_stroke t
  | cons c r ih =>
    have h1 : c ≠ 47 := fun e => h (by rw [e]; exact List.mem_cons_self)
    have h2 : (47 : UInt8) ∉ r := fun e => h (List.mem_cons_of_mem _ e)
    rw [List.cons_append, splitL_cons h1, ih h2]; rfl
theorem splitL_parts (s : List UInt8) : ∀ x ∈ splitL s, (47 : UInt8) ∉ x := by
  induction s with
  | nil => intro x hx; simp [splitL] at hx; rw [hx]; simp
  | cons c t ih =>
    obtain ⟨y, r, e⟩ := splitL_shape t
    by_cases h : c = 47
    · subst h
      rw [splitL_stroke]
      intro x hx
      rcases List.mem_cons.1 hx with rfl | hx
      · simp
      · exact ih x hx
    · rw [splitL_cons h, e]
      rw [e] at ih
      intro x hx
      rcases List.mem_cons.1 hx with rfl | hx
      · intro hm
        rcases List.mem_cons.1 hm with h1 | h1
        · exact h h1.symm
        · exact ih y List.mem_cons_self h1
      · exact ih x (List.mem_cons_of_mem _ hx)
theorem split_join {l : List (List UInt8)} (hl : l ≠ []) (h : ∀ x ∈ l, (47 : UInt8) ∉ x) : splitL (joinL l) = l := by
  induction l with
  | nil => exact absurd rfl hl
  | cons a r ih =>
    cases r with
    | nil => simp [joinL]; exact splitL_none (h a List.mem_cons_self)
    | cons b r =>
      rw [joinL_cons, splitL_app (h a List.mem_cons_self), ih (by simp) (fun x hx => h x (List.mem_cons_of_mem _ hx))]
/-- Is it a name? -/
def okB (c : UInt8) : Bool := decide (32 ≤ c.toNat ∧ c.toNat ≠ 127 ∧ c ≠ 47)
def nameB (s : List UInt8) : Bool := decide (1 ≤ s.length ∧ s.length ≤ 64 ∧ s ≠ [46] ∧ s ≠ [46, 46]) && s.all okB
/-- The error's number of a path. -/
def checkN (p : List UInt8) : Int :=
  if 255 < p.length ∨ 16 < (namesL p).length then 2 else if p = [] ∨ (namesL p).all nameB = false then 50 else 0
end Go.Proofs.Ytaajfekolokaoaa
namespace Go.Proofs.Ytaajfekolokaoaa
open Go.Lib

/-- The order of lists of names, name by name. -/
def cmpQ : List (List UInt8) → List (List UInt8) → Int
  | [], [] => 0
  | [], _ :: _ => -1
  | _ :: _, [] => 1
  | a :: u, b :: v => if Op.bytesLess a b = true then -1 else if Op.bytesLess b a = true then 1 else cmpQ u v
theorem less_self (a : List UInt8) : Op.bytesLess a a = false := by
  induction a with
  | nil => rfl
  | cons x xs ih => simp [Op.bytesLess, ih, UInt8.lt_irrefl]
theorem less_cons_same (x : UInt8) (a b : List UInt8) : Op.bytesLess (x :: a) (x :: b) = Op.bytesLess a b := by
  simp [Op.bytesLess, UInt8.lt_irrefl]
theorem less_cons_ne {x y : UInt8} (h : x ≠ y) (a b : List UInt8) : Op.bytesLess (x :: a) (y :: b) = decide (x < y) := by
  simp [Op.bytesLess, h]
theorem less_nil (a : List UInt8) : Op.bytesLess a [] = false := by cases a <;> rfl
theorem cmpQ_cons_nil (a b : List (List UInt8)) : cmpQ ([] :: a) ([] :: b) = cmpQ a b := by
  rw [cmpQ, less_nil]; rfl
theorem cmpQ_same (x : UInt8) (h g : List UInt8) (a b : List (List UInt8)) : cmpQ ((x :: h) :: a) ((x :: g) :: b) = cmpQ (h :: a) (g :: b) := by
  rw [cmpQ, cmpQ, less_cons_same, less_cons_same]
theorem rank_lt {x y : UInt8} (h1 : x ≠ 47) (h2 : y ≠ 47) : rankI x < rankI y ↔ x < y := by
  unfold rankI
  rw [if_neg h1, if_neg h2, UInt8.lt_iff_toNat_lt]
  omega
theorem cmpQ_split (a b : List UInt8) : cmpQ (splitL a) (splitL b) = cmpP a b := by
  induction a generalizing b with
  | nil =>
    cases b with
    | nil => simp [splitL, cmpQ, cmpP, Op.bytesLess]
    | cons y ys =>
      obtain ⟨h, r, e⟩ := splitL_shape ys
      rw [cmpP]
      by_cases hy : y = 47
      · rw [hy, splitL_stroke, e]
        show cmpQ [[]] ([] :: h :: r) = -1
        rw [cmpQ_cons_nil]; rfl
      · rw [splitL_cons hy]
        show cmpQ [[]] _ = -1
        rw [cmpQ]; rfl
  | cons x xs ih =>
    cases b with
    | nil =>
      obtain ⟨h, r, e⟩ := splitL_shape xs
      rw [cmpP]
      by_cases hx : x = 47
      · rw [hx, splitL_stroke, e]
        show cmpQ ([] :: h :: r) [[]] = 1
        rw [cmpQ_cons_nil]; rfl
      · rw [splitL_cons hx]
        show cmpQ _ [[]] = 1
        rw [cmpQ, less_nil]; rfl
    | cons y ys =>
      obtain ⟨h, r, e⟩ := splitL_shape xs
      obtain ⟨g, q, f⟩ := splitL_shape ys
      rw [cmpP]
      by_cases hxy : x = y
      · subst hxy
        rw [if_pos rfl, ← ih ys]
        by_cases hx : x = 47
        · rw [hx, splitL_stroke, splitL_stroke, cmpQ_cons_nil]
        · rw [splitL_cons hx, splitL_cons hx, e, f]
          exact cmpQ_same x h g r q
      · rw [if_neg hxy]
        by_cases hx : x = 47
        · have hy : y ≠ 47 := fun k => hxy (by rw [hx, k])
          rw [hx, splitL_stroke, splitL_cons hy, rankI_47, if_pos (by have := rankI_ge hy; omega), cmpQ]
          rfl
        · by_cases hy : y = 47
          · rw [hy, splitL_stroke, splitL_cons hx, rankI_47, if_neg (by have := rankI_ge hx; omega), cmpQ, less_nil]
            rfl
          · rw [splitL_cons hx, splitL_cons hy, cmpQ, less_cons_ne hxy, less_cons_ne (fun k => hxy k.symm)]
            by_cases hl : x < y
            · rw [if_pos (by simpa using hl), if_pos ((rank_lt hx hy).2 hl)]
            · have hl2 : y < x := by
                rw [UInt8.lt_iff_toNat_lt] at hl ⊢
                have : x.toNat ≠ y.toNat := fun k => hxy (UInt8.toNat_inj.1 k)
                omega
              rw [if_neg (by simpa using hl), if_pos (by simpa using hl2), if_neg (fun k => hl ((rank_lt hx hy).1 k))]
theorem cmpQ_names (a b : List UInt8) : cmpQ (namesL a) (namesL b) = cmpP a b := by
  unfold namesL
  by_cases ha : a = []
  · by_cases hb : b = []
    · rw [if_pos ha, if_pos hb, ha, hb]; rfl
    · obtain ⟨h, r, e⟩ := splitL_shape b
      rw [if_pos ha, if_neg hb, ha, e]
      cases b with
      | nil => exact absurd rfl hb
      | cons y ys => rfl
  · by_cases hb : b = []
    · obtain ⟨h, r, e⟩ := splitL_shape a
      rw [if_neg ha, if_pos hb, hb, e]
      cases a with
      | nil => exact absurd rfl ha
      | cons y ys => rfl
    · rw [if_neg ha, if_neg hb, cmpQ_split]
end Go.Proofs.Ytaajfekolokaoaa
namespace Go.Proofs.Ytaajfekolokaoaa
open Go.Lib

def byteN (s : ByteArray) (j : Nat) : Nat := (s.get! j).toNat
theorem decode_lo (s : ByteArray) (i : Nat) (h : byteN s i < 128) : Utf8.decode s i = (byteN s i, 1) := by
  unfold byteN at h ⊢
  unfold Utf8.decode
  simp only [Nat.add_zero]
  rw [if_pos h]
theorem decode_hi (s : ByteArray) (i : Nat) (hi : i < s.size) (h : 128 ≤ byteN s i) : 128 ≤ (Utf8.decode s i).1 ∧ 1 ≤ (Utf8.decode s i).2 ∧ ∀ j, i ≤ j → j < i + (Utf8.decode s i).2 → j < s.size ∧ 128 ≤ byteN s j := by
  have one : ∀ j, i ≤ j → j < i + 1 → j < s.size ∧ 128 ≤ byteN s j := fun j h1 h2 => by
    have : j = i := by omega
    subst this; exact ⟨hi, h⟩
  have cont : ∀ k, (decide (i + k < s.size) && (s.get! (i + k)).toNat / 64 == 2) = true → i + k < s.size ∧ 128 ≤ byteN s (i + k) := fun k hk => by
    simp only [Bool.and_eq_true, decide_eq_true_eq, beq_iff_eq] at hk
    exact ⟨hk.1, by unfold byteN; omega⟩
  unfold byteN at h
  unfold Utf8.decode
  simp only [Nat.add_zero]
  rw [if_neg (by omega)]
  have re : 128 ≤ Utf8.runeError := by decide
  split
  · rename_i h2
    simp only [Bool.and_eq_true] at h2
    have c1 := cont 1 (by simpa using h2.2)
    split
    · rename_i h3
      refine ⟨by show 128 ≤ _; omega, by show 1 ≤ (_ : Nat); omega, fun j h4 h5 => ?_⟩
      have : j = i ∨ j = i + 1 := by simp only at h5; omega
      rcases this with rfl | rfl
      · exact one _ (by omega) (by omega)
      · exact c1
    · exact ⟨re, by decide, one⟩
  · split
    · rename_i h2
      simp only [Bool.and_eq_true] at h2
      have c1 := cont 1 (by simpa using h2.1.2)
      have c2 := cont 2 (by simpa using h2.2)
      split
      · rename_i h3
        simp only [Bool.and_eq_true, decide_eq_true_eq] at h3
        refine ⟨by show 128 ≤ _; omega, by show 1 ≤ (_ : Nat); omega, fun j h4 h5 => ?_⟩
        have : j = i ∨ j = i + 1 ∨ j = i + 2 := by simp only at h5; omega
        rcases this with rfl | rfl | rfl
        · exact one _ (by omega) (by omega)
        · exact c1
        · exact c2
      · exact ⟨re, by decide, one⟩
    · split
      · rename_i h2
        simp only [Bool.and_eq_true] at h2
        have c1 := cont 1 (by simpa using h2.1.1.2)
        have c2 := cont 2 (by simpa using h2.1.2)
        have c3 := cont 3 (by simpa using h2.2)
        split
        · rename_i h3
          simp only [Bool.and_eq_true, decide_eq_true_eq] at h3
          refine ⟨by show 128 ≤ _; omega, by show 1 ≤ (_ : Nat); omega, fun j h4 h5 => ?_⟩
          have : j = i ∨ j = i + 1 ∨ j = i + 2 ∨ j = i + 3 := by simp only at h5; omega
          rcases this with rfl | rfl | rfl | rfl
          · exact one _ (by omega) (by omega)
          · exact c1
          · exact c2
          · exact c3
        · exact ⟨re, by decide, one⟩
      · exact ⟨re, by decide, one⟩
theorem idxFuncFrom_byte (p : Nat → Bool) (hp : ∀ r, 128 ≤ r → p r = false) (s : ByteArray) : ∀ (f pos : Nat), s.size ≤ pos + f → (0 ≤ idxFuncFrom p true s f pos ↔ ∃ j, pos ≤ j ∧ j < s.size ∧ p (byteN s j) = true)
  | 0, pos, h => by
    rw [idxFuncFrom]
    constructor
    · intro k; omega
    · rintro ⟨j, h1, h2, _⟩; omega
  | f + 1, pos, h => by
    rw [idxFuncFrom]
    by_cases hlt : pos < s.size
    · rw [if_pos hlt]
      by_cases hb : byteN s pos < 128
      · rw [decode_lo s pos hb]
        show 0 ≤ (if p (byteN s pos) = true then (pos : Int) else idxFuncFrom p true s f (pos + 1)) ↔ _
        by_cases hq : p (byteN s pos) = true
        · rw [if_pos hq]
          exact ⟨fun _ => ⟨pos, Nat.le_refl _, hlt, hq⟩, fun _ => by omega⟩
        · rw [if_neg hq, idxFuncFrom_byte p hp s f (pos + 1) (by omega)]
          constructor
          · rintro ⟨j, h1, h2, h3⟩; exact ⟨j, by omega, h2, h3⟩
          · rintro ⟨j, h1, h2, h3⟩
            have : j ≠ pos := fun e => hq (by rw [← e]; exact h3)
            exact ⟨j, by omega, h2, h3⟩
      · obtain ⟨r1, r2, r3⟩ := decode_hi s pos hlt (by omega)
        generalize Utf8.decode s pos = d at *
        rw [hp d.1 r1]
        show 0 ≤ (if false = true then (pos : Int) else idxFuncFrom p true s f (pos + d.2)) ↔ _
        rw [if_neg (by decide), idxFuncFrom_byte p hp s f (pos + d.2) (by omega)]
        constructor
        · rintro ⟨j, h1, h2, h3⟩; exact ⟨j, by omega, h2, h3⟩
        · rintro ⟨j, h1, h2, h3⟩
          by_cases hj : j < pos + d.2
          · have := hp _ (r3 j h1 hj).2
            rw [h3] at this; cases this
          · exact ⟨j, by omega, h2, h3⟩
    · rw [if_neg hlt]
      constructor
      · intro k; omega
      · rintro ⟨j, h1, h2, _⟩; omega
/-- What no name bears. -/
def badR (r : Nat) : Bool := decide (r < 32 ∨ r = 127 ∨ r = 47)
theorem badR_hi (r : Nat) (h : 128 ≤ r) : badR r = false := by unfold badR; exact decide_eq_false (by omega)
theorem okB_bad (c : UInt8) : okB c = !badR c.toNat := by
  unfold okB badR
  rw [Bool.eq_iff_iff]
  simp only [decide_eq_true_eq, Bool.not_eq_true', decide_eq_false_iff_not]
  rw [show (c ≠ 47) ↔ c.toNat ≠ 47 from ⟨fun h e => h (UInt8.toNat_inj.1 e), fun h e => h (by rw [e]; rfl)⟩]
  omega
theorem idx_bad (s : ByteArray) : decide (0 ≤ idxFunc badR true s) = !(s.data.toList.all okB) := by
  rw [Bool.eq_iff_iff, decide_eq_true_eq]
  unfold idxFunc
  rw [idxFuncFrom_byte badR badR_hi s s.size 0 (by omega)]
  have hsz : s.size = s.data.toList.length := by simp
  have hby : ∀ j (h : j < s.data.toList.length), byteN s j = (s.data.toList[j]).toNat := fun j h => by
    have h' : j < s.size := by omega
    unfold byteN
    congr 1
    show s.data[j]! = _
    have h2 : j < s.data.size := h'
    rw [getElem!_pos s.data j h2]
    simp
  constructor
  · rintro ⟨j, _, h2, h3⟩
    rw [Bool.not_eq_true', List.all_eq_false]
    have h2' : j < s.data.toList.length := by omega
    refine ⟨s.data.toList[j], List.getElem_mem h2', ?_⟩
    rw [okB_bad, ← hby j h2', h3]; decide
  · intro h
    rw [Bool.not_eq_true', List.all_eq_false] at h
    obtain ⟨x, hx, hx2⟩ := h
    obtain ⟨j, hj, e⟩ := List.getElem_of_mem hx
    refine ⟨j, Nat.zero_le _, by omega, ?_⟩
    rw [hby j hj, e]
    rw [okB_bad] at hx2
    simpa using hx2
end Go.Proofs.Ytaajfekolokaoaa
namespace Go.Proofs.Ytaajfekolokaoaa
open Go.RowKit Go.Lib

theorem at_size (s : List UInt8) : (⟨s.toArray⟩ : ByteArray).size = s.length := by simp [ByteArray.size]
theorem str_at (w : World) (s : List UInt8) (i : Nat) (hi : i < s.length) : (Instr.index 9 (.string ⟨s.toArray⟩) (.int .i64 (i : Int))).run Try.prog w = .ok (.int .u8 ((s.getD i 0).toNat : Nat)) w := by
  have hs : i < (⟨s.toArray⟩ : ByteArray).size := by rw [at_size]; exact hi
  rw [run_index_string _ _ _ _ _ (by kernel_rfl), dif_pos (by omega)]
  have e : (i : Int).toNat = i := by omega
  simp only [e]
  have e2 : (⟨s.toArray⟩ : ByteArray)[i] = s[i] := rfl
  rw [e2, show s.getD i 0 = s[i] by simp [List.getD, List.getElem?_eq_getElem hi]]
theorem drewn (B : Nat) (w : World) (n : Nat) : Below B w (w.drewN n) := ⟨rfl, rfl, rfl, Nat.le_refl _, fun _ _ => rfl⟩
theorem quiet_l {P : Program} {f : FuncId} {args : Array Value} {w : World} {n : Nat} {v : Value}
    (h : Calls P f args (w.drewN n) fun e w' => e = .returned v ∧ w.drewN n = w') : Calls P f args (w.drewN n) fun e w'' => e = .returned v ∧ ∃ m, w'' = w.drewN m :=
  h.mono fun _ _ ⟨he, hm⟩ => ⟨he, n, hm.symm⟩
theorem quiet_d {P : Program} {f : FuncId} {args : Array Value} {w : World} {n : Nat} {v : Value}
    (h : Calls P f args (w.drewN n) fun e w' => e = .returned v ∧ ∃ m, w' = (w.drewN n).drewN m) : Calls P f args (w.drewN n) fun e w'' => e = .returned v ∧ ∃ m, w'' = w.drewN m :=
  h.mono fun _ _ ⟨he, m, hm⟩ => ⟨he, n + m, by rw [hm, World.drewN_drewN]⟩
set_option maxHeartbeats 1000000 in
theorem alike_any (a b : List UInt8) (w : World) (ha : a.length ≤ 140737488355328) : Calls Try.prog 55 #[.string ⟨a.toArray⟩, .string ⟨b.toArray⟩] w fun e w' => e = .returned (.int .i64 ((alikeN a b : Nat) : Int)) ∧ ∃ n, w' = w.drewN n := by
  have HU := Lib.hid (fun k => alikeN_unique (a := a) (b := b) (k := k))
  go_enter Try.func55, Try.ntmps55
  go_wp2_with fail
  go_loopw [5] (fun i wr => ∃ k n : Nat, k ≤ a.length ∧ k ≤ b.length ∧ i = .int .i64 k ∧ Hid (∀ j, j < k → a.getD j 0 = b.getD j 0) ∧ wr = w.drewN n) (fun i _ => a.length - (intOf i).toNat)
  case atStart => exact ⟨0, 0, Nat.zero_le _, Nat.zero_le _, rfl, Lib.hid (fun j hj => absurd hj (by omega)), rfl⟩
  case round =>
    obtain ⟨k, n, hk1, hk2, rfl, hsame, rfl⟩ := hrel
    by_cases h1 : k < a.length
    · by_cases h2 : k < b.length
      · have hx := fun W => str_at W a k h1
        have hy := fun W => str_at W b k h2
        have g1 : decide (k < a.length) = true := decide_eq_true h1
        have g2 : decide (k < b.length) = true := decide_eq_true h2
        by_cases h3 : a.getD k 0 = b.getD k 0
        · have HN : Hid (∀ j, j < k + 1 → a.getD j 0 = b.getD j 0) := Lib.hid (fun j hj => by
            by_cases e : j = k
            · rw [e]; exact h3
            · exact hsame.out j (by omega))
          have h4 : (a.getD k 0).toNat = (b.getD k 0).toNat := by rw [h3]
          rw [h4] at hx
          generalize (b.getD k 0).toNat = y at *
          clear h3 h4
          go_wp2_with fail
          go_quiet (fail)
          go_wp2_with fail
          go_roundw
          case rel => exact ⟨k + 1, n + nq, by omega, by omega, by go_num, HN, rfl⟩
          case measure => simp [intOf]; omega
        · have HQ : Hid (alikeN a b = k) := Lib.hid (HU.out k hk1 hk2 hsame.out (Or.inr (Or.inr h3)))
          have h4 : (((a.getD k 0).toNat : Int) == ((b.getD k 0).toNat : Int)) = false := by
            rw [beq_eq_false_iff_ne]; intro e; exact h3 (UInt8.toNat_inj.1 (by omega))
          generalize (a.getD k 0).toNat = x at *
          generalize (b.getD k 0).toNat = y at *
          clear h3
          go_wp2_with fail
          go_quiet (fail)
          go_wp2_with fail
          go_ret
          exact ⟨by rw [HQ.out]; rfl, n + nq, by rw [World.drewN_drewN]⟩
      · have HQ : Hid (alikeN a b = k) := Lib.hid (HU.out k hk1 hk2 hsame.out (Or.inr (Or.inl (by omega))))
        have g1 : decide (k < a.length) = true := decide_eq_true h1
        have g2 : decide (k < b.length) = false := decide_eq_false h2
        go_wp2_with fail
        go_quiet (fail)
        go_wp2_with fail
        go_ret
        exact ⟨by rw [HQ.out]; rfl, n + nq, by rw [World.drewN_drewN]⟩
    · have HQ : Hid (alikeN a b = k) := Lib.hid (HU.out k hk1 hk2 hsame.out (Or.inl (by omega)))
      have g1 : decide (k < a.length) = false := decide_eq_false h1
      go_wp2_with fail
      go_quiet (fail)
      go_wp2_with fail
      go_ret
      exact ⟨by rw [HQ.out]; rfl, n + nq, by rw [World.drewN_drewN]⟩
theorem rank_any (c : UInt8) (w : World) : Calls Try.prog 57 #[.int .u8 ((c.toNat : Nat) : Int)] w fun e w' => e = .returned (.int .i64 (rankI c)) ∧ w = w' := by
  by_cases h : c = 47
  · subst h
    go_enter Try.func57, Try.ntmps57
    go_wp2_with fail
    go_ret
    exact ⟨rfl, rfl⟩
  · have hr : Hid (rankI c = (c.toNat : Int)) := Lib.hid (by unfold rankI; rw [if_neg h])
    have hne : (((c.toNat : Nat) : Int) == 47) = false := by
      rw [beq_eq_false_iff_ne]; intro e; exact h (UInt8.toNat_inj.1 (by rw [show (47 : UInt8).toNat = 47 from rfl]; omega))
    have hc : c.toNat < 256 := c.toNat_lt
    generalize c.toNat = x at *
    clear h
    go_enter Try.func57, Try.ntmps57
    go_wp2_with fail
    go_ret
    exact ⟨by rw [hr.out]; rfl, rfl⟩
theorem compareInt_sgn (x y : Int) : Lib.compareInt x y = sgn x y := by
  unfold Lib.compareInt sgn; split <;> simp_all
end Go.Proofs.Ytaajfekolokaoaa
namespace Go.Proofs.Ytaajfekolokaoaa
open Go.RowKit Go.Lib

theorem cmpInt_any (x y : Int) (w : World) : Calls Try.prog 56 #[.int .i64 x, .int .i64 y] w fun e w' => e = .returned (.int .i64 (sgn x y)) ∧ w = w' :=
  (Try.cmp_Compare_int x y w).mono fun _ _ ⟨he, hw⟩ => ⟨by rw [he, compareInt_sgn], hw.symm⟩
set_option maxRecDepth 100000 in
set_option maxHeartbeats 1000000 in
theorem compare_any (a b : List UInt8) (w : World) (ha : a.length ≤ 140737488355328) (_ : b.length ≤ 140737488355328) : Calls Try.prog 43 #[.string ⟨a.toArray⟩, .string ⟨b.toArray⟩] w fun e w' => e = .returned (.int .i64 (cmpP a b)) ∧ ∃ n, w' = w.drewN n := by
  have HA := Lib.hid (alike_any a b w ha)
  obtain ⟨hle1, hle2⟩ := alikeN_le a b
  have HC : Hid (cmpP a b = if alikeN a b = a.length ∨ alikeN a b = b.length then sgn a.length b.length else sgn (rankI (a.getD (alikeN a b) 0)) (rankI (b.getD (alikeN a b) 0))) := Lib.hid (by rw [← cmpL_eq]; rfl)
  generalize alikeN a b = k at *
  generalize cmpP a b = r at *
  go_enter Try.func43, Try.ntmps43
  go_wp2_with fail
  refine HA.out.mono ?_
  rintro e w1 ⟨rfl, n, rfl⟩
  by_cases h1 : k = a.length
  · have HR : Hid (r = sgn a.length b.length) := Lib.hid (HC.out.trans (if_pos (Or.inl h1)))
    have g1 : ((k : Int) == (a.length : Int)) = true := by rw [h1]; simp
    clear h1
    go_wp2_with fail
    refine (cmpInt_any _ _ _).mono ?_
    rintro e w2 ⟨rfl, rfl⟩
    go_wp2_with fail
    go_ret
    exact ⟨by rw [HR.out]; rfl, n, rfl⟩
  · by_cases h2 : k = b.length
    · have HR : Hid (r = sgn a.length b.length) := Lib.hid (HC.out.trans (if_pos (Or.inr h2)))
      have g1 : ((k : Int) == (a.length : Int)) = false := by rw [beq_eq_false_iff_ne]; omega
      have g2 : ((k : Int) == (b.length : Int)) = true := by rw [h2]; simp
      clear h1 h2
      go_wp2_with fail
      refine (cmpInt_any _ _ _).mono ?_
      rintro e w2 ⟨rfl, rfl⟩
      go_wp2_with fail
      go_ret
      exact ⟨by rw [HR.out]; rfl, n, rfl⟩
    · have HR : Hid (r = sgn (rankI (a.getD k 0)) (rankI (b.getD k 0))) := Lib.hid (HC.out.trans (if_neg (by omega)))
      have g1 : ((k : Int) == (a.length : Int)) = false := by rw [beq_eq_false_iff_ne]; omega
      have g2 : ((k : Int) == (b.length : Int)) = false := by rw [beq_eq_false_iff_ne]; omega
      have hx := fun W => str_at W a k (by omega)
      have hy := fun W => str_at W b k (by omega)
      generalize a.getD k 0 = x at *
      generalize b.getD k 0 = y at *
      have HX := Lib.hid (rank_any x)
      have HY := Lib.hid (rank_any y)
      generalize rankI x = rx at *
      generalize rankI y = ry at *
      generalize x.toNat = xn at *
      generalize y.toNat = yn at *
      clear h1 h2
      go_wp2_with fail
      have HW : Hid (∃ m, w.drewN n = w.drewN m) := Lib.hid ⟨n, rfl⟩
      generalize w.drewN n = w1 at *
      go_quiet ((first | (go_at_call 57; first | exact quiet_l (HX.out _) | exact quiet_l (HY.out _)) | (go_at_call 56; exact quiet_l (cmpInt_any _ _ _))))
      go_wp2_with fail
      go_ret
      obtain ⟨m, rfl⟩ := HW.out
      exact ⟨by rw [HR.out]; rfl, m + nq, by rw [World.drewN_drewN]⟩
theorem prefix_app_iff (f p r : List UInt8) : (f ++ r).isPrefixOf p = (f.isPrefixOf p && r.isPrefixOf (p.drop f.length)) := by
  induction f generalizing p with
  | nil => simp
  | cons x xs ih =>
    cases p with
    | nil => simp [List.isPrefixOf]
    | cons y ys => simp only [List.cons_append, List.isPrefixOf, ih ys, List.length_cons, List.drop_succ_cons, Bool.and_assoc]
theorem underB_cons {f : List UInt8} (hf : f ≠ []) (p : List UInt8) : underB p f = (hasPrefix p f && hasPrefix (trimPrefix p f) [47]) := by
  unfold underB
  rw [if_neg hf, prefix_app_iff]
  unfold trimPrefix hasPrefix
  by_cases h : f.isPrefixOf p = true
  · rw [if_pos h]
  · have h' : f.isPrefixOf p = false := Bool.eq_false_iff.2 h
    rw [h']; rfl
end Go.Proofs.Ytaajfekolokaoaa
namespace Go.Proofs.Ytaajfekolokaoaa
open Go.RowKit Go.Lib

theorem nameB_no {s : List UInt8} (h : ¬ (1 ≤ s.length ∧ s.length ≤ 64 ∧ s ≠ [46] ∧ s ≠ [46, 46])) : nameB s = false := by
  unfold nameB; rw [decide_eq_false h]; rfl
theorem nameB_yes {s : List UInt8} (h : 1 ≤ s.length ∧ s.length ≤ 64 ∧ s ≠ [46] ∧ s ≠ [46, 46]) : nameB s = s.all okB := by
  unfold nameB; rw [decide_eq_true h]; rfl
/-- A slice value whose cells hold these texts. -/
def PStrsC (S : Nat → Prop) (w : World) (v : Value) (l : List (List UInt8)) : Prop :=
  (l = [] ∧ ∃ a c, v = .slice a 0 c) ∨ ∃ a cap, v = .slice (some a) l.length cap ∧ S a.block ∧ l.length ≤ cap ∧ ∀ i, i < l.length → w.cell? (a.add i) = some (.string ⟨(l.getD i []).toArray⟩)
theorem PStrsC.shape {S : Nat → Prop} {w : World} {v : Value} {l : List (List UInt8)} (h : PStrsC S w v l) : ∃ a c, v = .slice a l.length c := by
  rcases h with ⟨rfl, a, c, rfl⟩ | ⟨a, c, rfl, _⟩
  · exact ⟨a, c, rfl⟩
  · exact ⟨some a, c, rfl⟩
theorem PStrsC.kept {S S' : Nat → Prop} {w w' : World} {v : Value} {l : List (List UInt8)} (h : PStrsC S w v l) (hk : ∀ k, S k → S' k ∧ w'.heap[k]? = w.heap[k]?) : PStrsC S' w' v l := by
  rcases h with h | ⟨a, c, h1, h2, h3, h4⟩
  · exact Or.inl h
  · refine Or.inr ⟨a, c, h1, (hk _ h2).1, h3, fun i hi => ?_⟩
    rw [← h4 i hi]
    unfold World.cell?
    rw [add_block, (hk _ h2).2]
theorem PStrsC.at {S : Nat → Prop} {w : World} {a : Option Addr} {c : Nat} {l : List (List UInt8)} (h : PStrsC S w (.slice a l.length c) l) (hl : 0 < l.length) : ∃ b, a = some b ∧ S b.block ∧ l.length ≤ c ∧ ∀ i, i < l.length → w.cell? (b.add i) = some (.string ⟨(l.getD i []).toArray⟩) := by
  rcases h with ⟨h0, _⟩ | ⟨b, c', h1, h2, h3, h4⟩
  · rw [h0] at hl; simp at hl
  · injection h1 with h1 _ h1c
    subst h1 h1c
    exact ⟨b, rfl, h2, h3, h4⟩
/-- The library's table of how long a text its search takes. -/
def PEnv (w : World) : Prop := ∃ m, w.cell? ⟨1, 0, none⟩ = some (.int .i64 m)
theorem PEnv.on {w w' : World} (h : PEnv w) (hb : Below w.heap.size w w') : PEnv w' := by
  obtain ⟨m, hm⟩ := h
  exact ⟨m, by rw [hb.cell (p := ⟨1, 0, none⟩) (World.block_lt_of_cell? _ _ hm)]; exact hm⟩
theorem countB_one (s : List UInt8) : countB ⟨s.toArray⟩ ⟨#[47]⟩ = s.count 47 := by
  show count s [47] = _
  exact count_one 47 s
theorem split_names (p : List UInt8) : (splitB ⟨#[47]⟩ 0 (countB ⟨p.toArray⟩ ⟨#[47]⟩) ⟨p.toArray⟩).map (·.data.toList) = splitL p := by
  rw [splitB_data, countB_one]
  exact splitK_eq p
theorem pstrs_of (w : World) (xs : List ByteArray) : PStrsC (fun k => w.heap.size ≤ k ∧ k < w.heap.size + 1) (w.alloc (.cells (xs.map Value.string).toArray 9)) (.slice (some ⟨w.heap.size, 0, none⟩) xs.length xs.length) (xs.map (·.data.toList)) := by
  refine Or.inr ⟨⟨w.heap.size, 0, none⟩, xs.length, by rw [List.length_map], ⟨Nat.le_refl _, Nat.lt_succ_self _⟩, by rw [List.length_map]; exact Nat.le_refl _, fun i hi => ?_⟩
  rw [List.length_map] at hi
  rw [Addr.add_mid, cell_of_row _ _ _ _ _ _ (new_five w _ _)]
  simp [List.getD, List.getElem?_eq_getElem hi]
end Go.Proofs.Ytaajfekolokaoaa
namespace Go.Proofs.Ytaajfekolokaoaa
open Go.RowKit Go.Lib

/-- The place of the first that is no name; -1: none. -/
def badAt : List (List UInt8) → Int
  | [] => -1
  | x :: r => if nameB x = false then 0 else if badAt r = -1 then -1 else badAt r + 1
theorem badAt_ge (l : List (List UInt8)) : -1 ≤ badAt l := by
  induction l with
  | nil => exact Int.le_refl _
  | cons x r ih => unfold badAt; split; omega; split <;> omega
theorem badAt_all (l : List (List UInt8)) : badAt l = -1 ↔ l.all nameB = true := by
  induction l with
  | nil => simp [badAt]
  | cons x r ih =>
    have := badAt_ge r
    unfold badAt
    rw [List.all_cons]
    by_cases h : nameB x = false
    · rw [if_pos h, h]; simp
    · have h2 : nameB x = true := by simpa using h
      rw [if_neg h, h2]
      by_cases h3 : badAt r = -1
      · rw [if_pos h3, ih.1 h3]; simp
      · rw [if_neg h3]
        have h4 : r.all nameB = false := by
          cases e : r.all nameB
          · rfl
          · exact absurd (ih.2 e) h3
        rw [h4]
        simp; omega
theorem badAt_first {l : List (List UInt8)} {k : Nat} (hk : k < l.length) (h1 : ∀ j, j < k → nameB (l.getD j []) = true) (h2 : nameB (l.getD k []) = false) : badAt l = k := by
  induction l generalizing k with
  | nil => simp at hk
  | cons x r ih =>
    cases k with
    | zero => unfold badAt; rw [if_pos (by simpa using h2)]; rfl
    | succ k =>
      have hx : nameB x = true := by simpa using h1 0 (by omega)
      have := ih (k := k) (by simpa using hk) (fun j hj => by simpa using h1 (j + 1) (by omega)) (by simpa using h2)
      unfold badAt
      rw [if_neg (by rw [hx]; decide), this, if_neg (by omega)]
      omega
theorem badAt_none {l : List (List UInt8)} (h1 : ∀ j, j < l.length → nameB (l.getD j []) = true) : badAt l = -1 := by
  rw [badAt_all, List.all_eq_true]
  intro x hx
  obtain ⟨j, hj, rfl⟩ := List.getElem_of_mem hx
  have := h1 j hj
  rwa [show l.getD j [] = l[j] by simp [List.getD, List.getElem?_eq_getElem hj]] at this
end Go.Proofs.Ytaajfekolokaoaa
namespace Go.Proofs.Ytaajfekolokaoaa
open Go.RowKit Go.Lib

theorem splitL_short (s : List UInt8) : ∀ x ∈ splitL s, x.length ≤ s.length := by
  induction s with
  | nil => intro x hx; simp [splitL] at hx; rw [hx]; exact Nat.le_refl _
  | cons c t ih =>
    obtain ⟨y, r, e⟩ := splitL_shape t
    by_cases h : c = 47
    · subst h
      rw [splitL_stroke]
      intro x hx
      rcases List.mem_cons.1 hx with rfl | hx
      · simp
      · have := ih x hx; simp; omega
    · rw [splitL_cons h, e]
      rw [e] at ih
      intro x hx
      rcases List.mem_cons.1 hx with rfl | hx
      · have := ih y List.mem_cons_self; simpa using this
      · have := ih x (List.mem_cons_of_mem _ hx); simp; omega
theorem namesL_short (s : List UInt8) : ∀ x ∈ namesL s, x.length ≤ s.length := by
  unfold namesL; split
  · intro x hx; cases hx
  · exact splitL_short s
theorem namesL_len (s : List UInt8) : (namesL s).length ≤ s.length + 1 := by
  unfold namesL; split
  · simp
  · rw [splitL_len]; have := List.count_le_length (a := (47 : UInt8)) (l := s); omega
end Go.Proofs.Ytaajfekolokaoaa
