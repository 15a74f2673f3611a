/- The law GlobLast: mathematics. -/
import Derived.Test.YtkecpmhpdginpaaDoorGlobT
namespace Go.Proofs.YtkecpmhpdginpaaDoor
open Go.RowKit Go.Lib

theorem new_err : ∀ {L : List Txt} {i : Nat} {c : Int} {j : Nat}, newGo i L = .error (c, j) → c = 2 ∨ c = 60
  | [], _, _, _, h => by cases h
  | t :: r, i, c, j, h => by
    rw [newGo] at h
    split at h
    · exact new_err h
    · cases hp : parseN (if [33].isPrefixOf t = true then t.drop 1 else t) with
      | error d =>
        rw [hp] at h
        injection h with h
        injection h with h1 h2
        subst h1; exact parse_err hp
      | ok ps =>
        rw [hp] at h
        cases hn : newGo (i + 1) r with
        | error e =>
          rw [hn] at h
          injection h with h
          subst h; exact new_err hn
        | ok l => rw [hn] at h; cases h
theorem new_snoc {t : Txt} {r : RuleN} (h1 : ¬ (t = [] ∨ t.getD 0 0 = 35)) (h2 : parseN (if [33].isPrefixOf t = true then t.drop 1 else t) = .ok r.ps) (h3 : ([33] : Txt).isPrefixOf t = r.lets) : ∀ {L : List Txt} {i : Nat} {rs : List RuleN}, newGo i L = .ok rs → newGo i (L ++ [t]) = .ok (rs ++ [r])
  | [], i, rs, h => by
    injection h with h
    subst h
    rw [List.nil_append, newGo, if_neg h1, h2, h3]; rfl
  | x :: L, i, rs, h => by
    rw [newGo] at h
    rw [List.cons_append, newGo]
    split at h
    · rename_i hs
      rw [if_pos hs]; exact new_snoc h1 h2 h3 h
    · rename_i hs
      rw [if_neg hs]
      cases hp : parseN (if [33].isPrefixOf x = true then x.drop 1 else x) with
      | error d => rw [hp] at h; cases h
      | ok ps =>
        rw [hp] at h
        cases hn : newGo (i + 1) L with
        | error e => rw [hn] at h; cases h
        | ok l =>
          rw [hn] at h
          injection h with h
          subst h
          rw [new_snoc h1 h2 h3 hn]; rfl
theorem getD_old {rs : List RuleN} {r : RuleN} {y : Nat} (h : y < rs.length) : (rs ++ [r]).getD y ⟨[], false⟩ = rs.getD y ⟨[], false⟩ := by
  simp [List.getD, List.getElem?_append_left h]
/-- The last rule counts first. -/
theorem passN_snoc (rs : List RuleN) (r : RuleN) (l : List Txt) : passM (rs ++ [r]) l = if matchB r.ps l = true then !r.lets else passM rs l := by
  unfold passM passB
  rw [List.length_append, List.length_singleton, List.range_succ, List.reverse_append, List.reverse_singleton, List.singleton_append, passL_cons]
  have e1 : (rs ++ [r]).getD rs.length ⟨[], false⟩ = r := by simp [List.getD]
  rw [show psK (rs ++ [r]) rs.length = r.ps by unfold psK; rw [e1], e1]
  by_cases h : matchB r.ps l = true
  · rw [if_pos h, if_pos h]; rfl
  · rw [if_neg h, if_neg h]
    have key : ∀ (m : List Nat), (∀ y ∈ m, y < rs.length) → passL (rs ++ [r]) (fun k => matchB (psK (rs ++ [r]) k) l) m = passL rs (fun k => matchB (psK rs k) l) m := fun m => by
      induction m with
      | nil => intro _; rfl
      | cons y m ih =>
        intro hm
        have hy := hm y List.mem_cons_self
        rw [passL_cons, passL_cons, ih (fun z hz => hm z (List.mem_cons_of_mem _ hz)), getD_old hy]
        unfold psK
        rw [getD_old hy]
    rw [key _ (fun y hy => by simpa using hy)]
/-- A rule that means just these names. -/
theorem lit_means {P L : List Txt} : matchB (litP P) L = true ↔ L = P := by
  rw [matchB_iff]
  have := mt_names P [] L
  rw [List.append_nil] at this
  rw [this]
  constructor
  · rintro ⟨M, e, h⟩
    have : M = [] := mt_nil.1 h
    rw [this, List.append_nil] at e; exact e
  · intro e; exact ⟨[], by simp [e], .nil⟩
theorem not_ahead {p : Txt} (h : checkN p = 0) : ¬ AheadP p := by
  obtain ⟨h1, h2, h3, h4, h5⟩ := path_facts h
  rintro (e | e)
  · exact h1 e
  · cases p with
    | nil => exact h1 rfl
    | cons c t =>
      have : c = 47 := e
      subst this
      rw [splitL_stroke] at h2
      exact h4 [] (by rw [← h2]; exact List.mem_cons_self) rfl
theorem name_zero {p : Txt} (h : checkN p = 0) (i : Nat) : ¬ (i = 0 ∧ (namesL p).getD 0 [] = []) := by
  obtain ⟨h1, h2, h3, h4, h5⟩ := path_facts h
  rintro ⟨_, e⟩
  have hl : 0 < (namesL p).length := List.length_pos_iff.2 h3
  exact h4 _ (getD_in hl) e
/-- With the path itself passed over behind all. -/
theorem more_skips {p : Txt} (h : checkN p = 0) (rs : List RuleN) : skipsB (rs ++ [⟨litP (namesL p), false⟩]) p = true := by
  obtain ⟨h1, h2, h3, h4, h5⟩ := path_facts h
  have hl : 0 < (namesL p).length := List.length_pos_iff.2 h3
  rw [skipsB_iff]
  refine Or.inr ⟨(namesL p).length - 1, by omega, name_zero h _, ?_⟩
  rw [passN_eq, show (namesL p).length - 1 + 1 = (namesL p).length by omega, List.take_length, passN_snoc, if_pos (lit_means.2 rfl)]
  rfl
theorem less_skips {p : Txt} (h : checkN p = 0) (rs : List RuleN) : SkipsP (rs ++ [⟨litP (namesL p), true⟩]) p ↔ ∃ i, i + 1 < (namesL p).length ∧ passM rs ((namesL p).take (i + 1)) = true := by
  unfold SkipsP HitP
  constructor
  · rintro (⟨ha, _⟩ | ⟨i, h6, _, h8⟩)
    · exact absurd ha (not_ahead h)
    · rw [passN_eq, passN_snoc] at h8
      by_cases e : matchB (litP (namesL p)) ((namesL p).take (i + 1)) = true
      · rw [if_pos e] at h8; cases h8
      · rw [if_neg e] at h8
        refine ⟨i, ?_, h8⟩
        rcases Nat.lt_or_ge (i + 1) (namesL p).length with h9 | h9
        · exact h9
        · exact absurd (lit_means.2 (List.take_of_length_le h9)) e
  · rintro ⟨i, h6, h7⟩
    refine Or.inr ⟨i, by omega, name_zero h _, ?_⟩
    rw [passN_eq, passN_snoc, if_neg (fun e => ?_)]
    · exact h7
    · have := congrArg List.length (lit_means.1 e)
      rw [List.length_take] at this
      omega
/-- What lies above. -/
theorem above_skips {p : Txt} (h : checkN p = 0) (rs : List RuleN) (hf : parentN p ≠ []) : SkipsP rs (parentN p) ↔ ∃ i, i + 1 < (namesL p).length ∧ passM rs ((namesL p).take (i + 1)) = true := by
  rcases path_cases h with ⟨_, h1⟩ | ⟨h1, h2, h3, h4⟩
  · exact absurd h1 hf
  · have hn : namesL (parentN p) = (namesL p).dropLast := by
      have hp := parent_names p
      by_cases hl : (namesL p).length < 2
      · rw [if_pos hl] at hp; exact absurd hp hf
      · rw [if_neg hl] at hp
        rw [hp]
        refine names_join (fun e => ?_) (fun x hx => ?_)
        · have := congrArg List.length e; simp at this; omega
        · exact List.all_eq_true.1 (checkN_ok h).2.1 x ((List.dropLast_sublist _).subset hx)
    unfold SkipsP HitP
    rw [hn]
    constructor
    · rintro (⟨ha, _⟩ | ⟨i, h6, _, h8⟩)
      · exact absurd ha (not_ahead h2)
      · rw [List.length_dropLast] at h6
        rw [passN_eq] at h8
        refine ⟨i, by omega, ?_⟩
        rwa [List.dropLast_eq_take, List.take_take, Nat.min_eq_left (by omega)] at h8
    · rintro ⟨i, h6, h7⟩
      refine Or.inr ⟨i, by rw [List.length_dropLast]; omega, by rw [← hn]; exact name_zero h2 i, ?_⟩
      rw [passN_eq, List.dropLast_eq_take, List.take_take, Nat.min_eq_left (by omega)]; exact h7
theorem above_none {p : Txt} (hf : parentN p = []) (h : checkN p = 0) : ¬ ∃ i, i + 1 < (namesL p).length := by
  rcases path_cases h with ⟨h1, _⟩ | ⟨_, h2, _, _⟩
  · rintro ⟨i, hi⟩; omega
  · rw [hf] at h2; exact absurd h2 (by decide)
theorem under_parent {p : Txt} (h : checkN p = 0) : underB p (parentN p) = true := by
  rcases path_cases h with ⟨_, h1⟩ | ⟨_, _, h3, _⟩
  · rw [h1]; unfold underB; rw [if_pos rfl]; exact decide_eq_true (path_facts h).1
  · exact h3
theorem less_above {p : Txt} (h : checkN p = 0) (rs : List RuleN) : skipsB (rs ++ [⟨litP (namesL p), true⟩]) p = (!(parentN p).isEmpty && skipsB rs (parentN p)) := by
  have h1 := skipsB_iff (rs ++ [⟨litP (namesL p), true⟩]) p
  rw [less_skips h] at h1
  by_cases hf : parentN p = []
  · rw [hf]
    have h2 : skipsB (rs ++ [⟨litP (namesL p), true⟩]) p = false := by
      cases hb : skipsB (rs ++ [⟨litP (namesL p), true⟩]) p with
      | false => rfl
      | true => obtain ⟨i, hi, _⟩ := h1.1 hb; exact absurd ⟨i, hi⟩ (above_none hf h)
    rw [h2]; rfl
  · have h2 := skipsB_iff rs (parentN p)
    rw [above_skips h rs hf, ← h1] at h2
    have h3 : (parentN p).isEmpty = false := by cases hp : parentN p with
      | nil => exact absurd hp hf
      | cons a b => rfl
    rw [h3]
    cases ha : skipsB rs (parentN p) <;> cases hb : skipsB (rs ++ [⟨litP (namesL p), true⟩]) p <;> simp_all
theorem quo_head {p : Txt} (h : checkN p = 0) : ∃ t, quoL p = 92 :: t := by
  have ha := not_ahead h
  cases p with
  | nil => exact absurd (Or.inl rfl) ha
  | cons c t =>
    have hc : c ≠ 47 := fun e => ha (Or.inr e)
    exact ⟨c :: quoL t, quoL_cons hc t⟩
theorem new_more {p : Txt} (h : checkN p = 0) (hl : p.length ≤ 120) {L : List Txt} {rs : List RuleN} (hL : newGo 0 L = .ok rs) : newGo 0 (L ++ [quoL p]) = .ok (rs ++ [⟨litP (namesL p), false⟩]) := by
  obtain ⟨t, ht⟩ := quo_head h
  have hx := parse_x h hl
  rw [ht] at hx ⊢
  refine new_snoc (r := ⟨litP (namesL p), false⟩) ?_ ?_ rfl hL
  · rintro (e | e)
    · cases e
    · exact absurd e (by show (92 : UInt8) ≠ 35; decide)
  · rw [if_neg (fun e => by have : (false : Bool) = true := e; cases this)]; exact hx
theorem new_less {p : Txt} (h : checkN p = 0) (hl : p.length ≤ 120) {L : List Txt} {rs : List RuleN} (hL : newGo 0 L = .ok rs) : newGo 0 (L ++ [33 :: quoL p]) = .ok (rs ++ [⟨litP (namesL p), true⟩]) := by
  refine new_snoc (r := ⟨litP (namesL p), true⟩) ?_ ?_ rfl hL
  · rintro (e | e)
    · cases e
    · exact absurd e (by show (33 : UInt8) ≠ 35; decide)
  · rw [if_pos (show ([33] : Txt).isPrefixOf (33 :: quoL p) = true by simp [List.isPrefixOf])]; exact parse_x h hl
end Go.Proofs.YtkecpmhpdginpaaDoor
