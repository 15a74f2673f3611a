/- The reference's way to the parts: place by place of the base. -/
import Derived.Test.YtfiogjdjcocbnaaWeavAa
namespace Go.Proofs.Ytfiogjdjcocbnaa
open Go.RowKit

/-- Pairs whose first places are at or behind n, below m, one behind the other. -/
def FromN (n m : Nat) (o : List (Nat × Nat)) : Prop := (∀ p ∈ o, n ≤ p.1 ∧ p.1 < m) ∧ o.Pairwise fun p q => p.1 < q.1
theorem place_none {o : List (Nat × Nat)} {n : Nat} (h : ∀ p ∈ o, n + 1 ≤ p.1) : placeN o n = -1 := by
  induction o with
  | nil => rfl
  | cons p r ih =>
    have h1 := h p List.mem_cons_self
    show (if p.1 = n then (p.2 : Int) else placeN r n) = -1
    rw [if_neg (by omega)]
    exact ih (fun q hq => h q (List.mem_cons_of_mem _ hq))
theorem place_tail {p : Nat × Nat} {r : List (Nat × Nat)} {n : Nat} (h : p.1 < n) : placeN (p :: r) n = placeN r n := by
  show (if p.1 = n then (p.2 : Int) else placeN r n) = _
  rw [if_neg (by omega)]
/-- One place on. -/
theorem from_step {o : List (Nat × Nat)} {n m : Nat} (h : FromN n m o) :
    (∃ x r, o = (n, x) :: r ∧ placeN o n = (x : Int) ∧ FromN (n + 1) m r) ∨ (placeN o n = -1 ∧ FromN (n + 1) m o) := by
  obtain ⟨h1, h2⟩ := h
  cases o with
  | nil => exact Or.inr ⟨rfl, fun _ h => (by cases h), h2⟩
  | cons p r =>
    have hp := h1 p List.mem_cons_self
    obtain ⟨h3, h4⟩ := List.pairwise_cons.1 h2
    by_cases hn : p.1 = n
    · left
      obtain ⟨x, y⟩ := p
      simp only at hn h3
      subst hn
      refine ⟨y, r, rfl, ?_, fun q hq => ⟨h3 q hq, (h1 q (List.mem_cons_of_mem _ hq)).2⟩, h4⟩
      show (if x = x then (y : Int) else placeN r x) = y
      rw [if_pos rfl]
    · right
      have hlt : ∀ q ∈ p :: r, n + 1 ≤ q.1 := fun q hq => by
        rcases List.mem_cons.1 hq with rfl | hq
        · omega
        · have := h3 q hq; omega
      exact ⟨place_none hlt, fun q hq => ⟨hlt q hq, (h1 q hq).2⟩, h2⟩
theorem fast_skip_o {n m x : Nat} {r t : List (Nat × Nat)} (h : FromN (n + 1) m t) : fastN ((n, x) :: r) t = fastN r t := by
  cases t with
  | nil => rw [fastN_none, fastN_none]
  | cons u us => exact fastN_lt (by have := (h.1 u List.mem_cons_self).1; show n < _; omega) _ _
theorem fast_skip_t {n m x : Nat} {r o : List (Nat × Nat)} (h : FromN (n + 1) m o) : fastN o ((n, x) :: r) = fastN o r := by
  cases o with
  | nil => rfl
  | cons u us => exact fastN_gt (by have := (h.1 u List.mem_cons_self).1; show n < _; omega) _ _
section
variable {α : Type} [DecidableEq α]
/-- Where the reference stands: at place n of the base, with what is left of the pairs. -/
structure SegSt (a b c : List α) (o t : List (Nat × Nat)) (n i j k : Nat) (l ALL : List (PartN α)) (o' t' : List (Nat × Nat)) : Prop where
  po : ∀ n', n ≤ n' → placeN o n' = placeN o' n'
  pt : ∀ n', n ≤ n' → placeN t n' = placeN t' n'
  fo : FromN n a.length o'
  ft : FromN n a.length t'
  ok : FastOk a b c i j k (fastN o' t')
  hi : i ≤ n
  hj : j ≤ b.length
  hk : k ≤ c.length
  len : l.length ≤ 2 * n
  all : l ++ segsN (a.drop i) (b.drop j) (c.drop k) i j k (fastN o' t') = ALL
theorem segst_start (a b c : List α) : SegSt a b c (pairsN a 0 b 0) (pairsN a 0 c 0) 0 0 0 0 [] (segsN a b c 0 0 0 (fastN (pairsN a 0 b 0) (pairsN a 0 c 0))) (pairsN a 0 b 0) (pairsN a 0 c 0) where
  po := fun _ _ => rfl
  pt := fun _ _ => rfl
  fo := ⟨fun p hp => by have := pairs_in a b 0 0 p hp; omega, pairs_sorted _ _ _ _⟩
  ft := ⟨fun p hp => by have := pairs_in a c 0 0 p hp; omega, pairs_sorted _ _ _ _⟩
  ok := fast_ok a b c _ _ 0 0 0 (pairs_ok a b) (pairs_ok a c)
  hi := Nat.le_refl _
  hj := Nat.zero_le _
  hk := Nat.zero_le _
  len := Nat.le_refl _
  all := by simp
/-- One step: either the place doesn't stand fast, or two parts more. -/
theorem SegSt.step {a b c : List α} {o t : List (Nat × Nat)} {n i j k : Nat} {l ALL : List (PartN α)} {o' t' : List (Nat × Nat)} (h : SegSt a b c o t n i j k l ALL o' t') :
    ((placeN o n < 0 ∨ placeN t n < 0) ∧ ∃ o'' t'', SegSt a b c o t (n + 1) i j k l ALL o'' t'') ∨
    ∃ x y : Nat, placeN o n = (x : Int) ∧ placeN t n = (y : Int) ∧ j ≤ x ∧ x < b.length ∧ k ≤ y ∧ y < c.length ∧ ∃ o'' t'', SegSt a b c o t (n + 1) (n + 1) (x + 1) (y + 1)
      (l ++ [mkN ((a.drop i).take (n - i)) ((b.drop j).take (x - j)) ((c.drop k).take (y - k)), mkN ((a.drop n).take 1) ((b.drop x).take 1) ((c.drop y).take 1)]) ALL o'' t'' := by
  have hpo := h.po n (Nat.le_refl _)
  have hpt := h.pt n (Nat.le_refl _)
  have hle := h.len
  have hin := h.hi
  rcases from_step h.fo with ⟨x, r, rfl, e1, f1⟩ | ⟨e1, f1⟩
  · rcases from_step h.ft with ⟨y, s, rfl, e2, f2⟩ | ⟨e2, f2⟩
    · right
      have hF : fastN ((n, x) :: r) ((n, y) :: s) = (n, x, y) :: fastN r s := fastN_eq (o := (n, x)) (t := (n, y)) rfl _ _
      have hok := h.ok
      have hall := h.all
      rw [hF] at hok hall
      obtain ⟨k1, k2, k3, k4, k5, k6, _, _, k9⟩ := hok
      refine ⟨x, y, hpo.trans e1, hpt.trans e2, k2, k5, k3, k6, r, s, ⟨fun n' hn' => ?_, fun n' hn' => ?_, f1, f2, k9, Nat.le_refl _, k5, k6, by simp; omega, ?_⟩⟩
      · rw [h.po n' (by omega), place_tail (show n < n' by omega)]
      · rw [h.pt n' (by omega), place_tail (show n < n' by omega)]
      · rw [← hall, segsN, List.append_assoc]
        simp only [List.drop_drop]
        simp only at k1 k2 k3
        rw [show i + (n - i) = n from by omega, show j + (x - j) = x from by omega, show k + (y - k) = y from by omega]
        rfl
    · left
      refine ⟨Or.inr (by rw [hpt, e2]; omega), r, t', ⟨fun n' hn' => ?_, fun n' hn' => h.pt n' (by omega), f1, f2, ?_, by omega, h.hj, h.hk, by omega, ?_⟩⟩
      · rw [h.po n' (by omega), place_tail (show n < n' by omega)]
      · rw [← fast_skip_o (x := x) f2]; exact h.ok
      · rw [← fast_skip_o (x := x) f2]; exact h.all
  · left
    refine ⟨Or.inl (by rw [hpo, e1]; omega), ?_⟩
    rcases from_step h.ft with ⟨y, s, rfl, e2, f2⟩ | ⟨e2, f2⟩
    · refine ⟨o', s, ⟨fun n' hn' => h.po n' (by omega), fun n' hn' => ?_, f1, f2, ?_, by omega, h.hj, h.hk, by omega, ?_⟩⟩
      · rw [h.pt n' (by omega), place_tail (show n < n' by omega)]
      · rw [← fast_skip_t (x := y) f1]; exact h.ok
      · rw [← fast_skip_t (x := y) f1]; exact h.all
    · exact ⟨o', t', ⟨fun n' hn' => h.po n' (by omega), fun n' hn' => h.pt n' (by omega), f1, f2, h.ok, by omega, h.hj, h.hk, by omega, h.all⟩⟩
/-- Behind the last line: one part more. -/
theorem SegSt.last {a b c : List α} {o t : List (Nat × Nat)} {i j k : Nat} {l ALL : List (PartN α)} {o' t' : List (Nat × Nat)} (h : SegSt a b c o t a.length i j k l ALL o' t') :
    l ++ [mkN ((a.drop i).take (a.length - i)) ((b.drop j).take (b.length - j)) ((c.drop k).take (c.length - k))] = ALL := by
  have h0 : o' = [] := by
    cases o' with
    | nil => rfl
    | cons p r => have := h.fo.1 p List.mem_cons_self; omega
  have hall := h.all
  rw [h0, fastN_nil, segsN] at hall
  rw [← hall, List.take_of_length_le (by simp), List.take_of_length_le (by simp), List.take_of_length_le (by simp)]
/-- What a part is before its kind is told. -/
def bareN {β : Type} (p : PartN β) : PartN β := ⟨0, p.base, p.ours, p.theirs⟩
end
end Go.Proofs.Ytfiogjdjcocbnaa
