/- A text that means one text alone: mathematics and the walk. -/
import Derived.Test.YtkecpmhpdginpaaDoorGlobR
namespace Go.Proofs.YtkecpmhpdginpaaDoor
open Go.RowKit Go.Lib
attribute [local go_sem] ba_app

/-- A text with \ ahead of each byte but /. -/
def quoL (p : Txt) : Txt := p.flatMap fun c => if c = 47 then [47] else [92, c]
def quoN (t : Txt) : Txt := t.flatMap fun c => [92, c]
theorem quoL_nil : quoL [] = [] := rfl
theorem quoL_stroke (t : Txt) : quoL (47 :: t) = 47 :: quoL t := rfl
theorem quoL_cons {c : UInt8} (h : c ≠ 47) (t : Txt) : quoL (c :: t) = 92 :: c :: quoL t := by
  show (if c = 47 then [47] else [92, c]) ++ quoL t = _
  rw [if_neg h]; rfl
theorem quoL_app (a b : Txt) : quoL (a ++ b) = quoL a ++ quoL b := by unfold quoL; rw [List.flatMap_append]
theorem quoN_cons (c : UInt8) (t : Txt) : quoN (c :: t) = 92 :: c :: quoN t := rfl
theorem quoN_app (a b : Txt) : quoN (a ++ b) = quoN a ++ quoN b := by unfold quoN; rw [List.flatMap_append]
theorem quoL_name : ∀ {t : Txt}, (47 : UInt8) ∉ t → quoL t = quoN t
  | [], _ => rfl
  | c :: t, h => by
    rw [quoL_cons (fun e => h (by rw [e]; exact List.mem_cons_self)), quoN_cons, quoL_name (fun hm => h (List.mem_cons_of_mem _ hm))]
theorem quoL_len (p : Txt) : (quoL p).length ≤ 2 * p.length := by
  induction p with
  | nil => simp [quoL]
  | cons c t ih =>
    by_cases h : c = 47
    · subst h; rw [quoL_stroke]; simp; omega
    · rw [quoL_cons h]; simp; omega
theorem split_quo : ∀ p : Txt, splitL (quoL p) = (splitL p).map quoN
  | [] => rfl
  | c :: t => by
    by_cases h : c = 47
    · subst h; rw [quoL_stroke, splitL_stroke, splitL_stroke, split_quo t]; rfl
    · rw [quoL_cons h, splitL_cons (by decide), splitL_cons h, splitL_cons h, split_quo t]
      obtain ⟨a, r, hr⟩ := splitL_shape t
      rw [hr]
      rfl
/-- The signs of a quoted name. -/
def litS (t : Txt) : List (Option S4) := t.map fun c => some (addOne noneS c.toNat)
theorem litS_len (t : Txt) : (litS t).length = t.length := by unfold litS; simp
theorem signs_zero (n : Nat) : signsGo n [] = some [] := by cases n <;> rfl
theorem signs_quo : ∀ (t : Txt) (n : Nat) (r : Txt), t.length ≤ n → signsGo n (quoN t ++ r) = (match signsGo (n - t.length) r with
      | none => none
      | some l => some (litS t ++ l))
  | [], n, r, _ => by
    show signsGo n r = _
    rw [List.length_nil, Nat.sub_zero]
    cases signsGo n r <;> rfl
  | c :: t, 0, r, h => by simp at h
  | c :: t, n + 1, r, h => by
    have hs : signN (92 :: c :: (quoN t ++ r)) = some (some (addOne noneS c.toNat), quoN t ++ r) := rfl
    rw [quoN_cons]
    show (match signN (92 :: c :: (quoN t ++ r)) with
      | none => none
      | some (x, r2) => (match signsGo n r2 with
        | none => none
        | some l => some (x :: l))) = _
    rw [hs]
    show (match signsGo n (quoN t ++ r) with
        | none => none
        | some l => some (some (addOne noneS c.toNat) :: l)) = _
    rw [signs_quo t n r (by simpa using h), show n + 1 - (c :: t).length = n - t.length by simp]
    cases signsGo (n - t.length) r <;> rfl
theorem quoN_len (t : Txt) : (quoN t).length = 2 * t.length := by
  induction t with
  | nil => rfl
  | cons c t ih => rw [quoN_cons]; simp [ih]; omega
theorem piece_quo {t : Txt} (h : t ≠ []) : pieceN (quoN t) = some (some (litS t)) := by
  obtain ⟨c, r, rfl⟩ : ∃ c r, t = c :: r := by cases t with
    | nil => exact absurd rfl h
    | cons c r => exact ⟨c, r, rfl⟩
  unfold pieceN
  rw [if_neg (by rw [quoN_cons]; simp), if_neg (by rw [quoN_cons]; intro e; injection e with e _; exact absurd e (by decide))]
  have := signs_quo (c :: r) (quoN (c :: r)).length [] (by rw [quoN_len]; omega)
  rw [List.append_nil, signs_zero] at this
  rw [this]
  simp
theorem read_quo : ∀ {l : List Txt}, (∀ x ∈ l, x ≠ []) → readN (l.map quoN) = some (l.map fun t => some (litS t))
  | [], _ => rfl
  | t :: l, h => by
    rw [List.map_cons, readN_cons, piece_quo (h t List.mem_cons_self), read_quo (fun x hx => h x (List.mem_cons_of_mem _ hx))]
    rfl
theorem lit_item (c d : UInt8) : hasS (addOne noneS c.toNat) d.toNat = decide (d = c) := by
  rw [has_addOne c.toNat_lt d.toNat_lt, has_none, Bool.false_or]
  exact decide_eq_decide.2 ⟨fun h => UInt8.toNat_inj.1 h, fun h => by rw [h]⟩
/-- A quoted name means itself. -/
theorem mt_lit : ∀ (t : Txt) (r : List (Option S4)) (x : Txt), Mt (itemsS (litS t ++ r)) x ↔ ∃ y, x = t ++ y ∧ Mt (itemsS r) y
  | [], r, x => ⟨fun h => ⟨x, rfl, h⟩, fun ⟨y, e, h⟩ => by rw [e]; exact h⟩
  | c :: t, r, x => by
    show Mt (some (fun d : UInt8 => hasS (addOne noneS c.toNat) d.toNat) :: itemsS (litS t ++ r)) x ↔ _
    rw [mt_one]
    constructor
    · rintro ⟨a, u, rfl, h1, h2⟩
      rw [lit_item] at h1
      obtain ⟨y, e, h3⟩ := (mt_lit t r u).1 h2
      exact ⟨y, by rw [of_decide_eq_true h1, e]; rfl, h3⟩
    · rintro ⟨y, rfl, h⟩
      exact ⟨c, t ++ y, rfl, by rw [lit_item]; exact decide_eq_true rfl, (mt_lit t r _).2 ⟨y, rfl, h⟩⟩
theorem means_lit (t x : Txt) : meansB (litS t) x = true ↔ x = t := by
  rw [meansB_iff]
  have := mt_lit t [] x
  rw [List.append_nil] at this
  rw [this]
  constructor
  · rintro ⟨y, e, h⟩
    have h2 : y = [] := mt_nil.1 h
    rw [e, h2, List.append_nil]
  · intro e; exact ⟨[], by simp [e], .nil⟩
/-- Quoted names mean themselves. -/
theorem mt_names : ∀ (l : List Txt) (r : List PieceN) (L : List Txt), Mt (itemsP ((l.map fun t => some (litS t)) ++ r)) L ↔ ∃ M, L = l ++ M ∧ Mt (itemsP r) M
  | [], r, L => ⟨fun h => ⟨L, rfl, h⟩, fun ⟨M, e, h⟩ => by rw [e]; exact h⟩
  | t :: l, r, L => by
    show Mt (some (meansB (litS t)) :: itemsP ((l.map fun t => some (litS t)) ++ r)) L ↔ _
    rw [mt_one]
    constructor
    · rintro ⟨a, u, rfl, h1, h2⟩
      obtain ⟨M, e, h3⟩ := (mt_names l r u).1 h2
      exact ⟨M, by rw [(means_lit t a).1 h1, e]; rfl, h3⟩
    · rintro ⟨M, rfl, h⟩
      exact ⟨t, l ++ M, rfl, (means_lit t t).2 rfl, (mt_names l r _).2 ⟨M, rfl, h⟩⟩
set_option maxRecDepth 100000 in
set_option maxHeartbeats 2000000 in
theorem quoted_any (p : Txt) (w : World) (hp : p.length ≤ 1048576) :
    Calls Tryd.prog 19 #[.string ⟨p.toArray⟩] w fun e w' => e = .returned (.string ⟨(quoL p).toArray⟩) ∧ Below w.heap.size w w' := by
  have HR := Lib.hid (Below.refl w.heap.size w)
  go_enter Tryd.func19, Tryd.ntmps19
  go_wp2_with fail
  go_loop [4, 3] (fun i o => ∃ k : Nat, k ≤ p.length ∧ i = .int .i64 k ∧ o = .string ⟨(quoL (p.take k)).toArray⟩) (fun i _ => p.length - (intOf i).toNat)
  case atStart => exact ⟨0, Nat.zero_le _, rfl, rfl⟩
  case round =>
    obtain ⟨k, hk, rfl, rfl⟩ := hrel
    by_cases hlt : k < p.length
    · have hI := fun W => str_at W p k hlt
      have HTK : Hid (p.take (k + 1) = p.take k ++ [p.getD k 0]) := Lib.hid (take_one hlt)
      obtain ⟨c, hc⟩ : ∃ c, p.getD k 0 = c := ⟨_, rfl⟩
      have hcu : ∀ W, (Instr.slice 9 (.string ⟨p.toArray⟩) (some (.int .i64 (k : Int))) (some (.int .i64 ((k : Int) + 1))) none).run Tryd.prog W = .ok (.string ⟨#[c]⟩) W := fun W => by
        have := str_cut W p k (k + 1) (by omega) hlt
        rw [show k + 1 - k = 1 by omega, List.drop_eq_getElem_cons hlt] at this
        have e : p[k] = c := by rw [← hc]; simp [List.getD, hlt]
        rw [e] at this
        rw [show ((k : Int) + 1) = ((k + 1 : Nat) : Int) by omega]
        exact this
      rw [hc] at hI HTK
      have HQ : Hid (quoL (p.take (k + 1)) = quoL (p.take k) ++ quoL [c]) := Lib.hid (by rw [HTK.out, quoL_app])
      have hql : (quoL (p.take k)).length ≤ 2097152 := by have := quoL_len (p.take k); rw [List.length_take] at this; omega
      clear hc
      by_cases h47 : c = 47
      · have g47 : ((c.toNat : Int) == 47) = true := byte_t _ 47 (by omega) 47 rfl h47
        have n47 : ((c.toNat : Int) != 47) = false := by rw [bne, g47]; rfl
        have e47 : decide ((c.toNat : Int) = 47) = true := by rw [← g47]; rfl
        have HQ2 : Hid (quoL (p.take (k + 1)) = quoL (p.take k) ++ [c]) := Lib.hid (by rw [HQ.out, h47]; rfl)
        clear h47 g47
        go_wp2_with fail
        go_round
        case rel => exact ⟨k + 1, by omega, by go_num, by rw [HQ2.out]⟩
        case measure => simp [intOf]; omega
      · have g47 : ((c.toNat : Int) == 47) = false := byte_f _ 47 (by omega) 47 rfl h47
        have n47 : ((c.toNat : Int) != 47) = true := by rw [bne, g47]; rfl
        have e47 : decide ((c.toNat : Int) = 47) = false := by rw [← g47]; rfl
        have HQ2 : Hid (quoL (p.take (k + 1)) = quoL (p.take k) ++ ([92] ++ [c])) := Lib.hid (by rw [HQ.out, quoL_cons h47]; rfl)
        clear h47 g47
        go_wp2_with fail
        go_round
        case rel => exact ⟨k + 1, by omega, by go_num, by rw [HQ2.out]; simp⟩
        case measure => simp [intOf]; omega
    · have HTK : Hid (p.take k = p) := Lib.hid (List.take_of_length_le (by omega))
      go_wp2_with fail
      go_ret
      rw [HTK.out]
      exact ⟨rfl, HR.out⟩
end Go.Proofs.YtkecpmhpdginpaaDoor
