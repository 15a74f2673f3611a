/- The deepest folder in common. -/
import Derived.Test.YtplbcncbljcfmaaDoorPathP
namespace Go.Proofs.YtplbcncbljcfmaaDoor

/-- q is what stands ahead of the last stroke of p, or nothing. -/
def Par (p q : Txt) : Prop := ((47 : UInt8) ∉ p ∧ q = []) ∨ ∃ x, (47 : UInt8) ∉ x ∧ p = q ++ 47 :: x
theorem par_ex (p : Txt) : ∃ q, Par p q := by
  by_cases h : (47 : UInt8) ∈ p
  · induction p with
    | nil => simp at h
    | cons c t ih =>
      by_cases ht : (47 : UInt8) ∈ t
      · obtain ⟨q, hq⟩ := ih ht
        rcases hq with ⟨h0, _⟩ | ⟨x, hx, e⟩
        · exact absurd ht h0
        · exact ⟨c :: q, Or.inr ⟨x, hx, by rw [e]; rfl⟩⟩
      · have hc : c = 47 := by
          rcases List.mem_cons.1 h with h | h
          · exact h.symm
          · exact absurd h ht
        subst hc
        exact ⟨[], Or.inr ⟨t, ht, rfl⟩⟩
  · exact ⟨[], Or.inl ⟨h, rfl⟩⟩
/-- A stroke further ahead stands within what is ahead of the last one. -/
theorem cut_two {f z q x : Txt} (hx : (47 : UInt8) ∉ x) (h : f ++ 47 :: z = q ++ 47 :: x) : f = q ∨ ∃ y, q = f ++ 47 :: y := by
  rcases List.append_eq_append_iff.1 h with ⟨as, h1, h2⟩ | ⟨bs, h1, h2⟩
  · cases as with
    | nil => left; simpa using h1.symm
    | cons a as =>
      right
      rw [List.cons_append, List.cons.injEq] at h2
      exact ⟨as, by rw [h1, h2.1]⟩
  · cases bs with
    | nil => left; simpa using h1
    | cons b bs =>
      exfalso
      rw [List.cons_append, List.cons.injEq] at h2
      exact hx (by rw [h2.2]; simp)
theorem Par.cut {p q f z : Txt} (h : Par p q) (hp : p = f ++ 47 :: z) : f = q ∨ ∃ y, q = f ++ 47 :: y := by
  rcases h with ⟨h0, _⟩ | ⟨x, hx, e⟩
  · exact absurd (by rw [hp]; simp) h0
  · exact cut_two hx (hp.symm.trans e)
theorem Par.unique {p q r : Txt} (h : Par p q) (k : Par p r) : q = r := by
  rcases h with ⟨h0, rfl⟩ | ⟨x, hx, e⟩
  · rcases k with ⟨_, rfl⟩ | ⟨y, _, f⟩
    · rfl
    · exact absurd (by rw [f]; simp) h0
  · rcases k with ⟨k0, _⟩ | ⟨y, hy, f⟩
    · exact absurd (by rw [e]; simp) k0
    · rcases cut_two hx (f.symm.trans e) with h1 | ⟨u, h1⟩
      · exact h1.symm
      · rcases cut_two hy (e.symm.trans f) with h2 | ⟨v, h2⟩
        · exact h2
        · exfalso
          have := congrArg List.length h1
          rw [h2] at this
          simp at this
theorem Par.le {p q : Txt} (h : Par p q) : q.length ≤ p.length := by
  rcases h with ⟨_, rfl⟩ | ⟨x, _, e⟩
  · simp
  · rw [e]; simp
theorem Par.less {p q : Txt} (h : Par p q) (hp : p ≠ []) : q.length < p.length := by
  rcases h with ⟨_, rfl⟩ | ⟨x, _, e⟩
  · exact List.length_pos_iff.2 hp
  · rw [e]; simp
theorem under_some {p f : Txt} (hf : f ≠ []) : underB p f = true ↔ ∃ z, p = f ++ 47 :: z := by
  unfold underB
  rw [if_neg hf, List.isPrefixOf_iff_prefix]
  constructor
  · rintro ⟨r, rfl⟩; exact ⟨r, by simp⟩
  · rintro ⟨z, rfl⟩; exact ⟨z, by simp⟩
theorem under_none {p : Txt} (h : p ≠ []) : underB p [] = true := by unfold underB; simp [h]
theorem under_len {p f : Txt} (h : underB p f = true) : f.length < p.length := by
  by_cases hf : f = []
  · subst hf
    have : p ≠ [] := by intro e; subst e; simp [underB] at h
    exact List.length_pos_iff.2 this
  · obtain ⟨z, rfl⟩ := (under_some hf).1 h
    simp
/-- The folder of what lies in c is c or lies in c. -/
theorem par_step {b b' c : Txt} (h : underB b c = true) (hp : Par b b') : b' = c ∨ (b' ≠ [] ∧ underB b' c = true) := by
  by_cases hc : c = []
  · subst hc
    by_cases hb : b' = []
    · exact Or.inl hb
    · exact Or.inr ⟨hb, under_none hb⟩
  · obtain ⟨z, hz⟩ := (under_some hc).1 h
    rcases hp.cut hz with h1 | ⟨y, h1⟩
    · exact Or.inl h1.symm
    · right
      have hb : b' ≠ [] := by rw [h1]; simp
      exact ⟨hb, (under_some hc).2 ⟨y, h1⟩⟩
/-- With what all of some texts begin. -/
def lcpF (b : Txt) (l : List Txt) : Txt := l.foldl (fun b p => b.take (alikeN b p)) b
theorem lcpF_snoc (b : Txt) (l : List Txt) (p : Txt) : lcpF b (l ++ [p]) = (lcpF b l).take (alikeN (lcpF b l) p) := by unfold lcpF; rw [List.foldl_append]; rfl
theorem alike_pre (a b : Txt) : a.take (alikeN a b) <+: b := by
  induction a generalizing b with
  | nil => simp
  | cons x xs ih =>
    cases b with
    | nil => simp [alikeN]
    | cons y ys =>
      unfold alikeN
      split
      · rename_i h; subst h
        rw [List.take_succ_cons]
        exact List.cons_prefix_cons.2 ⟨rfl, ih ys⟩
      · simp
theorem alike_max {f a b : Txt} (h1 : f <+: a) (h2 : f <+: b) : f <+: a.take (alikeN a b) := by
  induction a generalizing b f with
  | nil => simpa using h1
  | cons x xs ih =>
    cases f with
    | nil => exact List.nil_prefix
    | cons g gs =>
      obtain ⟨e1, k1⟩ := List.cons_prefix_cons.1 h1
      cases b with
      | nil => simp at h2
      | cons y ys =>
        obtain ⟨e2, k2⟩ := List.cons_prefix_cons.1 h2
        subst e1; subst e2
        unfold alikeN
        rw [if_pos rfl, List.take_succ_cons]
        exact List.cons_prefix_cons.2 ⟨rfl, ih k1 k2⟩
theorem lcpF_pre (b : Txt) (l : List Txt) : lcpF b l <+: b ∧ ∀ p ∈ l, lcpF b l <+: p := by
  induction l generalizing b with
  | nil => exact ⟨List.prefix_refl _, fun p hp => by simp at hp⟩
  | cons x xs ih =>
    obtain ⟨h1, h2⟩ := ih (b.take (alikeN b x))
    refine ⟨h1.trans (List.take_prefix _ _), fun p hp => ?_⟩
    rcases List.mem_cons.1 hp with rfl | hp
    · exact h1.trans (alike_pre b p)
    · exact h2 p hp
theorem lcpF_max {f b : Txt} {l : List Txt} (h1 : f <+: b) (h2 : ∀ p ∈ l, f <+: p) : f <+: lcpF b l := by
  induction l generalizing b with
  | nil => exact h1
  | cons x xs ih => exact ih (alike_max h1 (h2 x List.mem_cons_self)) fun p hp => h2 p (List.mem_cons_of_mem _ hp)
/-- What is said of the common folder of texts that are not empty. -/
structure Deepest (l : List Txt) (c : Txt) : Prop where
  all : ∀ p ∈ l, underB p c = true
  max : ∀ f, (∀ p ∈ l, ∃ z, p = f ++ 47 :: z) → f.length ≤ c.length
theorem deepest {x : Txt} {l : List Txt} {c : Txt} (hne : ∀ p ∈ x :: l, p ≠ []) (h : Par (lcpF x (x :: l)) c) : Deepest (x :: l) c := by
  obtain ⟨h1, h2⟩ := lcpF_pre x (x :: l)
  constructor
  · intro p hp
    by_cases hc : c = []
    · rw [hc]; exact under_none (hne p hp)
    · rcases h with ⟨_, h0⟩ | ⟨y, _, e⟩
      · exact absurd h0 hc
      · obtain ⟨r, hr⟩ := h2 p hp
        exact (under_some hc).2 ⟨y ++ r, by rw [← hr, e]; simp⟩
  · intro f hf
    have hpre : f ++ [47] <+: lcpF x (x :: l) := lcpF_max (by obtain ⟨z, hz⟩ := hf x List.mem_cons_self; exact ⟨z, by rw [hz]; simp⟩) (fun p hp => by obtain ⟨z, hz⟩ := hf p hp; exact ⟨z, by rw [hz]; simp⟩)
    obtain ⟨r, hr⟩ := hpre
    rcases h.cut (f := f) (z := r) (by rw [← hr]; simp) with rfl | ⟨y, rfl⟩
    · exact Nat.le_refl _
    · simp
theorem splitL_two (a r : Txt) : splitL (a ++ 47 :: r) = splitL a ++ splitL r := by
  induction a with
  | nil => rw [List.nil_append, splitL_stroke]; rfl
  | cons c t ih =>
    rw [List.cons_append]
    by_cases h : c = 47
    · subst h; rw [splitL_stroke, splitL_stroke, ih]; rfl
    · rw [splitL_cons h, splitL_cons h, ih]
      obtain ⟨x, q, e⟩ := splitL_shape t
      rw [e]; rfl
theorem splitL_head {r h g : Txt} {t : List Txt} (e : splitL r = h :: g :: t) : r = h ++ 47 :: joinL (g :: t) := by
  have := join_split r
  rw [e, joinL_cons] at this
  exact this.symm
/-- The name behind folder c, and what is behind that. -/
theorem name_behind {p c : Txt} (hp : p ≠ []) (hu : underB p c = true) (hl : (namesL c).length + 1 < (namesL p).length) :
    ∃ z, p = (if c = [] then (namesL p).getD (namesL c).length [] else c ++ 47 :: (namesL p).getD (namesL c).length []) ++ 47 :: z := by
  by_cases hc : c = []
  · subst hc
    have e0 : namesL ([] : Txt) = [] := rfl
    rw [e0] at hl ⊢
    rw [if_pos rfl]
    have e1 : namesL p = splitL p := by unfold namesL; rw [if_neg hp]
    rw [e1] at hl ⊢
    cases e : splitL p with
    | nil => exact absurd e (splitL_ne p)
    | cons h t =>
      cases t with
      | nil => rw [e] at hl; simp at hl
      | cons g t => exact ⟨_, splitL_head e⟩
  · obtain ⟨r, rfl⟩ := (under_some hc).1 hu
    have e0 : namesL c = splitL c := by unfold namesL; rw [if_neg hc]
    have e1 : namesL (c ++ 47 :: r) = splitL c ++ splitL r := by unfold namesL; rw [if_neg hp, splitL_two]
    rw [if_neg hc]
    rw [e0, e1] at hl ⊢
    cases e : splitL r with
    | nil => exact absurd e (splitL_ne r)
    | cons h t =>
      cases t with
      | nil => rw [e] at hl; simp at hl
      | cons g t =>
        refine ⟨joinL (g :: t), ?_⟩
        have : (splitL c ++ h :: g :: t).getD (splitL c).length [] = h := by simp [List.getD]
        rw [this, splitL_head e]
        simp
/-- Does a path have the same name as the first one behind the folder c, and still another one? -/
def deepB (x : Txt) (c p : Txt) : Bool := decide ((namesL c).length + 1 < (namesL p).length) && (decide ((namesL c).length + 1 < (namesL x).length) && ((namesL p).getD (namesL c).length [] == (namesL x).getD (namesL c).length []))
theorem deep_none {x : Txt} {l : List Txt} {c : Txt} (hne : ∀ p ∈ x :: l, p ≠ []) (hn : ∀ q ∈ namesL x, q ≠ []) (h : Deepest (x :: l) c) : (x :: l).all (deepB x c) = false := by
  cases e : (x :: l).all (deepB x c)
  · rfl
  · exfalso
    rw [List.all_eq_true] at e
    have hx := e x List.mem_cons_self
    unfold deepB at hx
    rw [Bool.and_eq_true] at hx
    have hx1 := of_decide_eq_true hx.1
    have hm := h.max (if c = [] then (namesL x).getD (namesL c).length [] else c ++ 47 :: (namesL x).getD (namesL c).length []) (fun p hp => by
      have := e p hp
      unfold deepB at this
      rw [Bool.and_eq_true, Bool.and_eq_true] at this
      obtain ⟨h1, _, h3⟩ := this
      have h3 : (namesL p).getD (namesL c).length [] = (namesL x).getD (namesL c).length [] := by simpa using h3
      rw [← h3]
      exact name_behind (hne p hp) (h.all p hp) (of_decide_eq_true h1))
    have hnn : (namesL x).getD (namesL c).length [] ≠ [] := by
      rw [List.getD_eq_getElem?_getD, List.getElem?_eq_getElem (by omega)]
      exact hn _ (List.getElem_mem (by omega))
    have := List.length_pos_iff.2 hnn
    by_cases hc : c = []
    · rw [if_pos hc, show c.length = 0 by rw [hc]; rfl] at hm; omega
    · rw [if_neg hc] at hm; simp at hm; omega
/-- The reference's way to the common folder. -/
theorem best_stop {l : List Txt} {c best : Txt} (h : Deepest l c) (hb : best ≠ []) (hi : best = c ∨ underB best c = true) (hall : l.all (fun p => underB p best) = true) : best = c := by
  rcases hi with hi | hi
  · exact hi
  · have h1 := under_len hi
    have h2 := h.max best (fun p hp => (under_some hb).1 (List.all_eq_true.1 hall p hp))
    omega
theorem best_on {l : List Txt} {c best b' : Txt} (h : Deepest l c) (hi : best = c ∨ underB best c = true) (hall : l.all (fun p => underB p best) = false) (hp : Par best b') : b' = c ∨ (b' ≠ [] ∧ underB b' c = true) := by
  rcases hi with rfl | hi
  · exfalso
    have : l.all (fun p => underB p best) = true := List.all_eq_true.2 fun p hp => h.all p hp
    rw [this] at hall; exact absurd hall (by decide)
  · exact par_step hi hp
end Go.Proofs.YtplbcncbljcfmaaDoor
