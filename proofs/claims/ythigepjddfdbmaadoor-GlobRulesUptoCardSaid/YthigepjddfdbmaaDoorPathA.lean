/- Paths as lists of bytes: one order, folders, names. -/
import Derived.RowKit
namespace Go.Proofs.YthigepjddfdbmaaDoor

def rankI (c : UInt8) : Int := if c = 47 then -1 else (c.toNat : Int)
theorem rankI_inj {a b : UInt8} (h : rankI a = rankI b) : a = b := by
  unfold rankI at h
  by_cases h1 : a = 47 <;> by_cases h2 : b = 47 <;> simp only [h1, h2, if_true, if_false] at h
  · rw [h1, h2]
  · omega
  · omega
  · exact UInt8.toNat_inj.1 (by omega)
theorem rankI_47 : rankI 47 = -1 := rfl
theorem rankI_ge {a : UInt8} (h : a ≠ 47) : 0 ≤ rankI a := by unfold rankI; rw [if_neg h]; omega
/-- cmp.Compare of two integers. -/
def sgn (x y : Int) : Int := if x < y then -1 else if y < x then 1 else 0
/-- With how many same bytes two texts begin. -/
def alikeN : List UInt8 → List UInt8 → Nat
  | a :: u, b :: v => if a = b then alikeN u v + 1 else 0
  | [], _ => 0
  | _ :: _, [] => 0
theorem alikeN_le (a b : List UInt8) : alikeN a b ≤ a.length ∧ alikeN a b ≤ b.length := by
  induction a generalizing b with
  | nil => cases b <;> simp [alikeN]
  | cons x xs ih =>
    cases b with
    | nil => simp [alikeN]
    | cons y ys =>
      have := ih ys
      unfold alikeN; split <;> simp <;> omega
theorem alikeN_same (a b : List UInt8) (k : Nat) (h : k < alikeN a b) : a.getD k 0 = b.getD k 0 := by
  induction a generalizing b k with
  | nil => cases b <;> simp [alikeN] at h
  | cons x xs ih =>
    cases b with
    | nil => simp [alikeN] at h
    | cons y ys =>
      unfold alikeN at h
      split at h
      · rename_i hxy
        cases k with
        | zero => simp [hxy]
        | succ k => simpa using ih ys k (by omega)
      · omega
theorem alikeN_stop (a b : List UInt8) (h1 : alikeN a b < a.length) (h2 : alikeN a b < b.length) : a.getD (alikeN a b) 0 ≠ b.getD (alikeN a b) 0 := by
  induction a generalizing b with
  | nil => simp at h1
  | cons x xs ih =>
    cases b with
    | nil => simp at h2
    | cons y ys =>
      by_cases hxy : x = y
      · have e : alikeN (x :: xs) (y :: ys) = alikeN xs ys + 1 := by rw [alikeN, if_pos hxy]
        rw [e] at h1 h2 ⊢
        simp only [List.length_cons] at h1 h2
        simpa using ih ys (by omega) (by omega)
      · have e : alikeN (x :: xs) (y :: ys) = 0 := by rw [alikeN, if_neg hxy]
        rw [e]; simpa using hxy
theorem alikeN_unique {a b : List UInt8} {k : Nat} (h1 : k ≤ a.length) (h2 : k ≤ b.length) (h3 : ∀ j, j < k → a.getD j 0 = b.getD j 0) (h4 : k = a.length ∨ k = b.length ∨ a.getD k 0 ≠ b.getD k 0) : alikeN a b = k := by
  have hl := alikeN_le a b
  rcases Nat.lt_trichotomy (alikeN a b) k with h | h | h
  · exact absurd (h3 _ h) (alikeN_stop a b (by omega) (by omega))
  · exact h
  · rcases h4 with h4 | h4 | h4
    · omega
    · omega
    · exact absurd (alikeN_same a b k h) h4
/-- What Compare answers, as it reckons. -/
def cmpL (a b : List UInt8) : Int := if alikeN a b = a.length ∨ alikeN a b = b.length then sgn a.length b.length else sgn (rankI (a.getD (alikeN a b) 0)) (rankI (b.getD (alikeN a b) 0))
def cmpP : List UInt8 → List UInt8 → Int
  | [], [] => 0
  | [], _ :: _ => -1
  | _ :: _, [] => 1
  | a :: u, b :: v => if a = b then cmpP u v else if rankI a < rankI b then -1 else 1
theorem cmpL_eq (a b : List UInt8) : cmpL a b = cmpP a b := by
  induction a generalizing b with
  | nil =>
    cases b with
    | nil => rfl
    | cons y ys =>
      have e : alikeN [] (y :: ys) = 0 := rfl
      unfold cmpL sgn; rw [e, if_pos (by simp), if_pos (by simp <;> omega), cmpP]
  | cons x xs ih =>
    cases b with
    | nil =>
      have e : alikeN (x :: xs) [] = 0 := rfl
      unfold cmpL sgn; rw [e, if_pos (by simp), if_neg (by simp <;> omega), if_pos (by simp <;> omega), cmpP]
    | cons y ys =>
      rw [cmpP]
      by_cases hxy : x = y
      · rw [if_pos hxy, ← ih ys]
        have e : alikeN (x :: xs) (y :: ys) = alikeN xs ys + 1 := by rw [alikeN, if_pos hxy]
        unfold cmpL
        rw [e]
        simp only [List.length_cons, List.getD_cons_succ]
        by_cases h : alikeN xs ys = xs.length ∨ alikeN xs ys = ys.length
        · rw [if_pos h, if_pos (by omega)]
          unfold sgn
          by_cases h1 : xs.length < ys.length
          · rw [if_pos (by omega), if_pos (by omega)]
          · rw [if_neg (by omega)]
            conv => rhs; rw [if_neg (by omega)]
            by_cases h2 : ys.length < xs.length
            · rw [if_pos (by omega), if_pos (by omega)]
            · rw [if_neg (by omega), if_neg (by omega)]
        · rw [if_neg h, if_neg (by omega)]
      · rw [if_neg hxy]
        have e : alikeN (x :: xs) (y :: ys) = 0 := by rw [alikeN, if_neg hxy]
        unfold cmpL
        rw [e, if_neg (by simp)]
        simp only [List.getD_cons_zero]
        have hr : rankI x ≠ rankI y := fun h => hxy (rankI_inj h)
        unfold sgn
        split
        · rfl
        · rw [if_pos (by omega)]
theorem cmpP_self (a : List UInt8) : cmpP a a = 0 := by
  induction a with
  | nil => rfl
  | cons x xs ih => rw [cmpP, if_pos rfl, ih]
theorem cmpP_cases (a b : List UInt8) : cmpP a b = -1 ∨ cmpP a b = 0 ∨ cmpP a b = 1 := by
  induction a generalizing b with
  | nil => cases b <;> simp [cmpP]
  | cons x xs ih =>
    cases b with
    | nil => simp [cmpP]
    | cons y ys =>
      rw [cmpP]
      split
      · exact ih ys
      · split <;> simp
theorem cmpP_neg (a b : List UInt8) : cmpP a b = - cmpP b a := by
  induction a generalizing b with
  | nil => cases b <;> simp [cmpP]
  | cons x xs ih =>
    cases b with
    | nil => simp [cmpP]
    | cons y ys =>
      rw [cmpP, cmpP]
      by_cases h : x = y
      · rw [if_pos h, if_pos h.symm]; exact ih ys
      · have hr : rankI x ≠ rankI y := fun e => h (rankI_inj e)
        have h' : ¬ y = x := fun e => h e.symm
        rw [if_neg h, if_neg h']
        by_cases h1 : rankI x < rankI y
        · rw [if_pos h1, if_neg (by omega)]
        · rw [if_neg h1, if_pos (by omega)]; rfl
theorem cmpP_zero (a b : List UInt8) : cmpP a b = 0 ↔ a = b := by
  constructor
  · intro h
    induction a generalizing b with
    | nil => cases b <;> simp [cmpP] at h ⊢
    | cons x xs ih =>
      cases b with
      | nil => simp [cmpP] at h
      | cons y ys =>
        rw [cmpP] at h
        by_cases e : x = y
        · rw [if_pos e] at h; rw [e, ih ys h]
        · rw [if_neg e] at h; split at h <;> omega
  · rintro rfl; exact cmpP_self _
theorem cmpP_trans (a b c : List UInt8) (h1 : cmpP a b ≤ 0) (h2 : cmpP b c ≤ 0) : cmpP a c ≤ 0 := by
  induction a generalizing b c with
  | nil => cases c <;> simp [cmpP]
  | cons x xs ih =>
    cases b with
    | nil => simp [cmpP] at h1
    | cons y ys =>
      cases c with
      | nil => simp [cmpP] at h2
      | cons z zs =>
        rw [cmpP] at h1 h2 ⊢
        by_cases exy : x = y
        · rw [if_pos exy] at h1
          by_cases eyz : y = z
          · rw [if_pos eyz] at h2
            rw [if_pos (exy.trans eyz)]; exact ih ys zs h1 h2
          · rw [if_neg eyz] at h2
            have hxz : x ≠ z := by rw [exy]; exact eyz
            rw [if_neg hxz, exy]; exact h2
        · rw [if_neg exy] at h1
          have lxy : rankI x < rankI y := by
            by_cases h : rankI x < rankI y
            · exact h
            · rw [if_neg h] at h1; omega
          by_cases eyz : y = z
          · rw [← eyz, if_neg exy, if_pos lxy]; omega
          · rw [if_neg eyz] at h2
            have lyz : rankI y < rankI z := by
              by_cases h : rankI y < rankI z
              · exact h
              · rw [if_neg h] at h2; omega
            have hxz : x ≠ z := fun e => by rw [e] at lxy; omega
            rw [if_neg hxz, if_pos (by omega)]; omega
/-- Does p lie within a folder? -/
def underB (p f : List UInt8) : Bool := if f = [] then decide (p ≠ []) else (f ++ [47]).isPrefixOf p
theorem isPrefix_split {f p : List UInt8} (h : f.isPrefixOf p = true) : ∃ r, p = f ++ r := by
  obtain ⟨r, hr⟩ := List.isPrefixOf_iff_prefix.1 h
  exact ⟨r, hr.symm⟩
theorem isPrefix_app (f r : List UInt8) : f.isPrefixOf (f ++ r) = true := List.isPrefixOf_iff_prefix.2 ⟨r, rfl⟩
theorem cmpP_app (b : List UInt8) (x : UInt8) (r : List UInt8) : cmpP (b ++ x :: r) b = 1 := by
  induction b with
  | nil => rfl
  | cons y ys ih => rw [List.cons_append, cmpP, if_pos rfl, ih]
theorem under_one {a b : List UInt8} (h : underB a b = true) : cmpP a b = 1 := by
  unfold underB at h
  by_cases hb : b = []
  · rw [if_pos hb] at h
    have := of_decide_eq_true h
    subst hb
    cases a with
    | nil => exact absurd rfl this
    | cons x xs => rfl
  · rw [if_neg hb] at h
    obtain ⟨r, rfl⟩ := isPrefix_split h
    rw [List.append_assoc]
    exact cmpP_app b 47 r
theorem cmpP_wedge (b c r : List UInt8) (h1 : cmpP b c < 0) (h2 : (b ++ [47]).isPrefixOf c = false) : cmpP (b ++ 47 :: r) c < 0 := by
  induction b generalizing c with
  | nil =>
    cases c with
    | nil => simp [cmpP] at h1
    | cons z zs =>
      have hz : z ≠ 47 := by
        intro e; subst e
        simp [List.isPrefixOf] at h2
      rw [List.nil_append, cmpP, if_neg (fun e => hz e.symm), if_pos (by have := rankI_ge hz; rw [rankI_47]; omega)]; omega
  | cons y ys ih =>
    cases c with
    | nil => simp [cmpP] at h1
    | cons z zs =>
      rw [cmpP] at h1
      rw [List.cons_append, cmpP]
      by_cases e : y = z
      · rw [if_pos e] at h1 ⊢
        refine ih zs h1 ?_
        subst e
        simpa [List.isPrefixOf] using h2
      · rw [if_neg e] at h1 ⊢; exact h1
theorem under_wedge {a b c : List UInt8} (h1 : underB a b = true) (h2 : underB c b = false) (h3 : cmpP b c < 0) : cmpP a c < 0 := by
  unfold underB at h1 h2
  by_cases hb : b = []
  · rw [if_pos hb] at h2
    subst hb
    have : c = [] := by simpa using h2
    subst this
    simp [cmpP] at h3
  · rw [if_neg hb] at h1 h2
    obtain ⟨r, rfl⟩ := isPrefix_split h1
    rw [List.append_assoc]
    exact cmpP_wedge b c r h3 h2
end Go.Proofs.YthigepjddfdbmaaDoor
