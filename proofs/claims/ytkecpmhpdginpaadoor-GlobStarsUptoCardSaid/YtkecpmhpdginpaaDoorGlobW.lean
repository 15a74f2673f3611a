/- The law GlobStars: mathematics. -/
import Derived.Test.YtkecpmhpdginpaaDoorGlobV
namespace Go.Proofs.YtkecpmhpdginpaaDoor
open Go.RowKit Go.Lib

theorem quoN_47 {t : Txt} (h : (47 : UInt8) ∉ t) : (47 : UInt8) ∉ quoN t := by
  unfold quoN
  rw [List.mem_flatMap]
  rintro ⟨c, hc, hm⟩
  rcases List.mem_cons.1 hm with e | hm
  · exact absurd e (by decide)
  · rw [List.mem_singleton] at hm; rw [hm] at h; exact h hc
theorem star_signs (x y : Txt) {n : Nat} (hn : x.length + 1 + y.length ≤ n) : signsGo n (quoN x ++ 42 :: quoN y) = some (litS x ++ none :: litS y) := by
  rw [signs_quo x n _ (by omega)]
  obtain ⟨m, hm⟩ : ∃ m, n - x.length = m + 1 := ⟨n - x.length - 1, by omega⟩
  rw [hm]
  have h2 := signs_quo y m [] (by omega)
  rw [List.append_nil, signs_zero] at h2
  have h3 : signsGo (m + 1) (42 :: quoN y) = (match signsGo m (quoN y) with
      | none => none
      | some l => some (none :: l)) := rfl
  rw [h3, h2]
  simp
theorem star_piece (x y : Txt) : pieceN (quoN x ++ 42 :: quoN y) = some (some (litS x ++ none :: litS y)) := by
  unfold pieceN
  rw [if_neg (by simp), if_neg (fun e => ?_), star_signs x y (by simp [quoN_len]; omega)]
  cases x with
  | nil =>
    injection e with _ e
    cases y with
    | nil => cases e
    | cons c r => rw [quoN_cons] at e; injection e with e _; exact absurd e (by decide)
  | cons c r => rw [quoN_cons] at e; injection e with e _; exact absurd e (by decide)
theorem star_parse {x y : Txt} (hx : (47 : UInt8) ∉ x) (hy : (47 : UInt8) ∉ y) (hl : x.length + y.length ≤ 64) : parseN (quoL x ++ [42] ++ quoL y) = .ok [some (litS x ++ none :: litS y)] := by
  have e : quoL x ++ [42] ++ quoL y = quoN x ++ 42 :: quoN y := by rw [quoL_name hx, quoL_name hy]; simp
  rw [e]
  unfold parseN
  rw [if_neg (by simp [quoN_len]; omega), splitL_none (fun h => ?_), readN_cons, star_piece]
  · rfl
  · rcases List.mem_append.1 h with h | h
    · exact quoN_47 hx h
    · rcases List.mem_cons.1 h with h | h
      · exact absurd h (by decide)
      · exact quoN_47 hy h
theorem one_name {l : List (Option S4)} {x : Txt} {P : Prop} {b : Bool} (h : Mt (itemsS l) x ↔ P) (hb : b = true ↔ P) : matchB [some l] [x] = b := by
  refine matchB_is (P := P) ?_ hb
  show Mt [some (meansB l)] [x] ↔ P
  rw [mt_one_cons, meansB_iff, h]
  exact ⟨fun a => a.1, fun a => ⟨a, .nil⟩⟩
theorem star_means (x z y : Txt) : matchB [some (litS x ++ none :: litS y)] [x ++ (z ++ y)] = true := by
  refine one_name (P := True) ⟨fun _ => trivial, fun _ => ?_⟩ ⟨fun _ => trivial, fun _ => rfl⟩
  refine (mt_lit x _ _).2 ⟨z ++ y, rfl, ?_⟩
  show Mt (none :: itemsS (litS y)) (z ++ y)
  have h := (mt_lit y [] y).2 ⟨[], by simp, .nil⟩
  rw [List.append_nil] at h
  exact mt_many.2 ⟨z, y, rfl, h⟩
theorem names_one {t : Txt} (h0 : t ≠ []) (h : (47 : UInt8) ∉ t) : namesL t = [t] := by unfold namesL; rw [if_neg h0, splitL_none h]
theorem names_two {t : Txt} (h : (47 : UInt8) ∉ t) : namesL (t ++ [47, 120]) = [t, [120]] := by
  unfold namesL
  rw [if_neg (by simp), show t ++ [47, 120] = t ++ 47 :: [120] from rfl, splitL_app h]; rfl
theorem any_one (t : Txt) : matchB (okP [42]) [t] = true := by
  have e : okP [42] = [some [none]] := rfl
  rw [e]
  exact one_name (P := True) ⟨fun _ => trivial, fun _ => mt_many.2 ⟨t, [], by simp, .nil⟩⟩ ⟨fun _ => trivial, fun _ => rfl⟩
theorem any_two (t u : Txt) : matchB (okP [42]) [t, u] = false := by
  have e : okP [42] = [some [none]] := rfl
  rw [e]
  refine matchB_not ?_
  show ¬ Mt [some (meansB [none])] [t, u]
  rw [mt_one_cons]
  rintro ⟨_, h⟩
  exact absurd (mt_nil.1 h) (by simp)
/-- Question marks. -/
def mkS (n : Nat) : List (Option S4) := List.replicate n (some (othersS noneS))
theorem mark_signs : ∀ n m : Nat, n ≤ m → signsGo m (List.replicate n 63) = some (mkS n)
  | 0, m, _ => signs_zero m
  | n + 1, 0, h => by omega
  | n + 1, m + 1, h => by
    rw [List.replicate_succ]
    have h3 : signsGo (m + 1) (63 :: List.replicate n 63) = (match signsGo m (List.replicate n 63) with
      | none => none
      | some l => some (some (othersS noneS) :: l)) := rfl
    rw [h3, mark_signs n m (by omega)]
    rfl
theorem mark_parse {n : Nat} (h1 : 1 ≤ n) (h2 : n ≤ 80) : parseN (List.replicate n 63) = .ok [some (mkS n)] := by
  obtain ⟨m, rfl⟩ : ∃ m, n = m + 1 := ⟨n - 1, by omega⟩
  unfold parseN
  rw [if_neg (by simp; omega), splitL_none (fun h => absurd (List.eq_of_mem_replicate h) (by decide)), readN_cons]
  have : pieceN (List.replicate (m + 1) 63) = some (some (mkS (m + 1))) := by
    unfold pieceN
    rw [if_neg (by simp), if_neg (fun e => by rw [List.replicate_succ] at e; injection e with e _; exact absurd e (by decide)), List.length_replicate, mark_signs _ _ (Nat.le_refl _)]
  rw [this]
  rfl
theorem mark_mt : ∀ (n : Nat) (x : Txt), Mt (itemsS (mkS n)) x ↔ x.length = n
  | 0, x => by
    show Mt [] x ↔ _
    rw [mt_nil]; simp
  | n + 1, x => by
    show Mt (some (fun c : UInt8 => hasS (othersS noneS) c.toNat) :: itemsS (mkS n)) x ↔ _
    cases x with
    | nil => exact ⟨fun h => absurd h mt_one_nil, fun h => by simp at h⟩
    | cons c t =>
      rw [mt_one_cons, mark_mt n t, List.length_cons]
      have : hasS (othersS noneS) c.toNat = true := by
        rw [has_others (fun k => by rcases get_all noneS k with h | h | h | h <;> rw [h] <;> decide), has_none]; rfl
      constructor
      · rintro ⟨_, h⟩; omega
      · intro h; exact ⟨this, by omega⟩
theorem mark_means (n : Nat) (x : Txt) {b : Bool} (hb : b = true ↔ x.length = n) : matchB [some (mkS n)] [x] = b := one_name (mark_mt n x) hb
end Go.Proofs.YtkecpmhpdginpaaDoor
