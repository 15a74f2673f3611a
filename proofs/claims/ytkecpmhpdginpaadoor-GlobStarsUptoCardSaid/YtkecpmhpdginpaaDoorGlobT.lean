/- The law GlobPlain. -/
import Derived.Test.YtkecpmhpdginpaaDoorGlobS
namespace Go.Proofs.YtkecpmhpdginpaaDoor
open Go.RowKit Go.Lib
attribute [local go_sem] ba_app

theorem split_glue : ∀ (a t : Txt), splitL (a ++ 47 :: t) = splitL a ++ splitL t
  | [], t => by rw [List.nil_append, splitL_stroke]; rfl
  | c :: a, t => by
    by_cases h : c = 47
    · subst h; rw [List.cons_append, splitL_stroke, splitL_stroke, split_glue a t]; rfl
    · rw [List.cons_append, splitL_cons h, splitL_cons h, split_glue a t]
      obtain ⟨x, r, hr⟩ := splitL_shape a
      rw [hr]; rfl
theorem joinL_glue {a b : List Txt} (ha : a ≠ []) (hb : b ≠ []) : joinL (a ++ b) = joinL a ++ 47 :: joinL b := by
  cases a with
  | nil => exact absurd rfl ha
  | cons x r =>
    cases b with
    | nil => exact absurd rfl hb
    | cons y s => simp [joinL]
theorem readN_glue {l m : List Txt} {a b : List PieceN} (hm : readN m = some b) : readN l = some a → readN (l ++ m) = some (a ++ b) := by
  induction l generalizing a with
  | nil =>
    intro h
    have : a = [] := by injection h with h; exact h.symm
    subst this; exact hm
  | cons t l ih =>
    intro h
    rw [readN_cons] at h
    rw [List.cons_append, readN_cons]
    cases hp : pieceN t with
    | none => rw [hp] at h; cases h
    | some x =>
      rw [hp] at h
      cases hr : readN l with
      | none => rw [hr] at h; cases h
      | some c =>
        rw [hr] at h
        injection h with h
        rw [ih hr, ← h]; rfl
abbrev litP (l : List Txt) : List PieceN := l.map fun t => some (litS t)
/-- What a path's names are. -/
theorem path_facts {p : Txt} (h : checkN p = 0) : p ≠ [] ∧ splitL p = namesL p ∧ namesL p ≠ [] ∧ (∀ x ∈ namesL p, x ≠ []) ∧ joinL (namesL p) = p := by
  obtain ⟨h1, h2, _, _⟩ := checkN_ok h
  have e : namesL p = splitL p := by unfold namesL; rw [if_neg h1]
  refine ⟨h1, e.symm, by rw [e]; exact splitL_ne p, fun x hx hx0 => ?_, join_names p⟩
  have := List.all_eq_true.1 h2 x hx
  rw [hx0] at this
  exact absurd this (by decide)
theorem quo_pieces {p : Txt} (h : checkN p = 0) : readN (splitL (quoL p)) = some (litP (namesL p)) := by
  obtain ⟨h1, h2, h3, h4, h5⟩ := path_facts h
  rw [split_quo, h2]; exact read_quo h4
theorem parse_x {p : Txt} (h : checkN p = 0) (hl : p.length ≤ 120) : parseN (quoL p) = .ok (litP (namesL p)) := by
  have := quoL_len p
  unfold parseN
  rw [if_neg (by omega), quo_pieces h]
theorem parse_y {p : Txt} (h : checkN p = 0) (hl : p.length ≤ 120) : parseN (quoL p ++ [47, 42, 42]) = .ok (litP (namesL p) ++ [none]) := by
  have := quoL_len p
  unfold parseN
  rw [if_neg (by simp; omega), show quoL p ++ [47, 42, 42] = quoL p ++ 47 :: [42, 42] from rfl, split_glue, readN_glue (b := [none]) rfl (quo_pieces h)]
theorem parse_z {p : Txt} (h : checkN p = 0) (hl : p.length ≤ 120) : parseN ([42, 42, 47] ++ quoL p) = .ok (none :: litP (namesL p)) := by
  have := quoL_len p
  unfold parseN
  rw [if_neg (by simp; omega), show [42, 42, 47] ++ quoL p = [42, 42] ++ 47 :: quoL p from rfl, split_glue, readN_glue (l := splitL [42, 42]) (a := [none]) (quo_pieces h) rfl]
  rfl
theorem names_inj {p q : Txt} (h : namesL p = namesL q) : p = q := by rw [← join_names p, ← join_names q, h]
theorem means_x {p q : Txt} : Mt (itemsP (litP (namesL p))) (namesL q) ↔ p = q := by
  have := mt_names (namesL p) [] (namesL q)
  rw [List.append_nil] at this
  rw [this]
  constructor
  · rintro ⟨M, e, h⟩
    have : M = [] := mt_nil.1 h
    rw [this, List.append_nil] at e
    exact (names_inj e).symm
  · intro e; subst e; exact ⟨[], by simp, .nil⟩
theorem under_iff {p q : Txt} (h : p ≠ []) : underB q p = true ↔ ∃ t, q = p ++ 47 :: t := by
  unfold underB
  rw [if_neg h, List.isPrefixOf_iff_prefix]
  constructor
  · rintro ⟨t, e⟩; exact ⟨t, by rw [← e]; simp⟩
  · rintro ⟨t, e⟩; exact ⟨t, by rw [e]; simp⟩
theorem means_y {p q : Txt} (h : checkN p = 0) : Mt (itemsP (litP (namesL p) ++ [none])) (namesL q) ↔ (p = q ∨ underB q p = true) := by
  obtain ⟨h1, h2, h3, h4, h5⟩ := path_facts h
  rw [mt_names, under_iff h1]
  constructor
  · rintro ⟨M, e, _⟩
    by_cases hM : M = []
    · rw [hM, List.append_nil] at e; exact Or.inl (names_inj e).symm
    · right
      refine ⟨joinL M, ?_⟩
      rw [← join_names q, e, joinL_glue h3 hM, h5]
  · rintro (e | ⟨t, e⟩)
    · subst e; exact ⟨[], by simp, mt_many.2 ⟨[], [], rfl, .nil⟩⟩
    · refine ⟨splitL t, ?_, mt_many.2 ⟨splitL t, [], by simp, .nil⟩⟩
      unfold namesL
      rw [if_neg (by rw [e]; simp), if_neg h1, e, split_glue]
theorem means_z {p q : Txt} (h : checkN p = 0) : Mt (itemsP (none :: litP (namesL p))) (namesL q) ↔ (p = q ∨ ∃ i, i < q.length ∧ q.getD i 0 = 47 ∧ q.drop (i + 1) = p) := by
  obtain ⟨h1, h2, h3, h4, h5⟩ := path_facts h
  have e0 : Mt (itemsP (none :: litP (namesL p))) (namesL q) ↔ ∃ a, namesL q = a ++ namesL p := by
    show Mt (none :: itemsP (litP (namesL p))) (namesL q) ↔ _
    rw [mt_many]
    constructor
    · rintro ⟨a, b, e, hb⟩
      have := (mt_names (namesL p) [] b).1 (by rw [List.append_nil]; exact hb)
      obtain ⟨M, e2, hM⟩ := this
      have : M = [] := mt_nil.1 hM
      rw [this, List.append_nil] at e2
      exact ⟨a, by rw [e, e2]⟩
    · rintro ⟨a, e⟩
      refine ⟨a, namesL p, e, ?_⟩
      have := (mt_names (namesL p) [] (namesL p)).2 ⟨[], by simp, .nil⟩
      rwa [List.append_nil] at this
  rw [e0]
  constructor
  · rintro ⟨a, e⟩
    by_cases ha : a = []
    · rw [ha, List.nil_append] at e; exact Or.inl (names_inj e).symm
    · right
      have hq : q = joinL a ++ 47 :: p := by rw [← join_names q, e, joinL_glue ha h3, h5]
      refine ⟨(joinL a).length, by rw [hq]; simp, ?_, ?_⟩
      · rw [hq]; simp [List.getD]
      · rw [hq, List.drop_append]; simp
  · rintro (e | ⟨i, h6, h7, h8⟩)
    · subst e; exact ⟨[], rfl⟩
    · have hq : q = q.take i ++ 47 :: p := by
        conv => lhs; rw [← List.take_append_drop i q]
        rw [List.drop_eq_getElem_cons h6, h8]
        have : q[i] = 47 := by rw [← h7]; simp [List.getD, h6]
        rw [this]
      refine ⟨splitL (q.take i), ?_⟩
      unfold namesL
      rw [if_neg (by rw [hq]; simp), if_neg h1]
      conv => lhs; rw [hq]
      exact split_glue _ _
/-- Does it end so, as far as one has looked? -/
def endsB (p q : Txt) (k : Nat) : Bool := (p == q) || (List.range k).any fun i => q.getD i 0 == 47 && q.drop (i + 1) == p
theorem endsB_zero (p q : Txt) : endsB p q 0 = (p == q) := by unfold endsB; simp
theorem endsB_succ (p q : Txt) (k : Nat) : endsB p q (k + 1) = (endsB p q k || (q.getD k 0 == 47 && q.drop (k + 1) == p)) := by
  unfold endsB; rw [List.range_succ, List.any_append]; simp [Bool.or_assoc]
theorem endsB_all (p q : Txt) : endsB p q q.length = true ↔ (p = q ∨ ∃ i, i < q.length ∧ q.getD i 0 = 47 ∧ q.drop (i + 1) = p) := by
  unfold endsB
  rw [Bool.or_eq_true, List.any_eq_true]
  simp only [List.mem_range, Bool.and_eq_true, beq_iff_eq]
theorem parse_is {s : Txt} {ps : List PieceN} (w : World) (hl : s.length ≤ 4194304) (hE : PEnv w) (h : parseN s = .ok ps) :
    Calls Tryd.prog 10 #[.string ⟨s.toArray⟩] w fun e w' => ∃ pb, e = .returned (.tuple #[.pointer (some ⟨pb, 0, none⟩), .int .i64 0]) ∧ PatAt (fun k => w.heap.size ≤ k ∧ k < w'.heap.size) w' pb ps ∧ Below w.heap.size w w' := by
  have := parse_any s w hl hE
  rw [h] at this
  exact this
theorem matchB_is {ps : List PieceN} {L : List Txt} {P : Prop} {b : Bool} (h : Mt (itemsP ps) L ↔ P) (hb : b = true ↔ P) : matchB ps L = b := by
  have h1 := matchB_iff ps L
  cases hm : matchB ps L <;> cases b <;> simp_all
theorem str_from (w : World) (x : Txt) (k : Nat) (h2 : k ≤ x.length) : (Instr.slice 9 (.string ⟨x.toArray⟩) (some (.int .i64 (k : Int))) none none).run Tryd.prog w = .ok (.string ⟨(x.drop k).toArray⟩) w := by
  rw [run_slice_string_l _ _ _ (by kernel_rfl) _ _ (by omega) (by rw [at_size]; omega)]
  congr 2
  have e2 : (k : Int).toNat = k := by omega
  rw [e2, at_size, extract_list, List.take_of_length_le (by simp)]
set_option maxRecDepth 100000 in
set_option maxHeartbeats 8000000 in
theorem plain_law (p q : Txt) (w : World) (hE : PEnv w) (hp : p.length ≤ 1048576) (hq : q.length ≤ 1048576) :
    Calls Tryd.prog 5 #[.string ⟨p.toArray⟩, .string ⟨q.toArray⟩] w fun e w' => e = .returned (.bool true) ∧ Below w.heap.size w w' := by
  have HE := Lib.hid hE
  have HAW := Lib.hid (awake_any w hE)
  clear hE
  go_enter Tryd.func5, Tryd.ntmps5
  go_wp2_with fail
  refine HAW.out.mono ?_
  rintro e w1 ⟨rfl, hb1⟩
  have HB1 := Lib.hid hb1
  have HC := Lib.hid (check_any p w1 (by omega) (HE.out.on hb1))
  obtain ⟨cp, hcp⟩ : ∃ c, checkN p = c := ⟨_, rfl⟩
  rw [hcp] at HC
  have HCP := Lib.hid hcp
  clear hb1 HAW hcp
  go_wp2_with fail
  refine HC.out.mono ?_
  rintro e w2 ⟨rfl, hb2⟩
  have HB2 : Hid (Below w.heap.size w w2) := Lib.hid (HB1.out.trans (hb2.mono HB1.out.size))
  clear hb2 HC HB1
  by_cases h0 : cp = 0
  case neg =>
    have g0 : (cp == 0) = false := beq_eq_false_iff_ne.2 h0
    have n0 : (cp != 0) = true := by rw [bne, g0]; rfl
    go_wp2_with fail
    go_ret
    exact ⟨rfl, HB2.out⟩
  subst h0
  have HC2 := Lib.hid (check_any q w2 (by omega) (HE.out.on HB2.out))
  generalize checkN q = cq at *
  go_wp2_with fail
  refine HC2.out.mono ?_
  rintro e w3 ⟨rfl, hb3⟩
  have HB3 : Hid (Below w.heap.size w w3) := Lib.hid (HB2.out.trans (hb3.mono HB2.out.size))
  clear hb3 HC2 HB2
  by_cases h0 : cq = 0
  case neg =>
    have g0 : (cq == 0) = false := beq_eq_false_iff_ne.2 h0
    have n0 : (cq != 0) = true := by rw [bne, g0]; rfl
    go_wp2_with fail
    go_ret
    exact ⟨rfl, HB3.out⟩
  subst h0
  by_cases h120 : 120 < p.length
  · go_wp2_with fail
    go_ret
    exact ⟨rfl, HB3.out⟩
  have HQ1 := Lib.hid (fun (W : World) => quoted_any p W hp)
  have hql : (quoL p).length ≤ 240 := by have := quoL_len p; omega
  have HPX := Lib.hid (parse_x HCP.out (by omega))
  have HPY := Lib.hid (parse_y HCP.out (by omega))
  have HPZ := Lib.hid (parse_z HCP.out (by omega))
  go_wp2_with fail
  refine (HQ1.out w3).mono ?_
  rintro e w4 ⟨rfl, hb4⟩
  have HB4 : Hid (Below w.heap.size w w4) := Lib.hid (HB3.out.trans (hb4.mono HB3.out.size))
  clear hb4 HB3
  go_wp2_with fail
  refine (parse_is w4 (by omega) (HE.out.on HB4.out) HPX.out).mono ?_
  rintro e w5 ⟨pb1, rfl, hpt, hb5⟩
  have HB5 : Hid (Below w.heap.size w w5) := Lib.hid (HB4.out.trans (hb5.mono HB4.out.size))
  have HM1 := Lib.hid (match_from hpt (HE.out.on HB5.out))
  clear hb5 hpt HB4
  go_wp2_with fail
  refine (HQ1.out w5).mono ?_
  rintro e w6 ⟨rfl, hb6⟩
  have HS6 := Lib.hid hb6
  have HB6 : Hid (Below w.heap.size w w6) := Lib.hid (HB5.out.trans (hb6.mono HB5.out.size))
  clear hb6
  go_wp2_with fail
  refine (parse_is w6 (by simp; omega) (HE.out.on HB6.out) HPY.out).mono ?_
  rintro e w7 ⟨pb2, rfl, hpt, hb7⟩
  have HS7 : Hid (Below w5.heap.size w5 w7) := Lib.hid (HS6.out.trans (hb7.mono HS6.out.size))
  have HB7 : Hid (Below w.heap.size w w7) := Lib.hid (HB6.out.trans (hb7.mono HB6.out.size))
  have HM2 := Lib.hid (match_from hpt (HE.out.on HB7.out))
  clear hb7 hpt HB5 HB6 HS6
  go_wp2_with fail
  refine (HQ1.out w7).mono ?_
  rintro e w8 ⟨rfl, hb8⟩
  have HS8 := Lib.hid hb8
  have HB8 : Hid (Below w.heap.size w w8) := Lib.hid (HB7.out.trans (hb8.mono HB7.out.size))
  clear hb8
  go_wp2_with fail
  refine (parse_is w8 (by simp; omega) (HE.out.on HB8.out) HPZ.out).mono ?_
  rintro e w9 ⟨pb3, rfl, hpt, hb9⟩
  have HB9 : Hid (Below w.heap.size w w9) := Lib.hid (HB8.out.trans (hb9.mono HB8.out.size))
  have HM3 := Lib.hid (match_from hpt (HE.out.on HB9.out))
  have HS9 : Hid (Below w7.heap.size w7 w9) := Lib.hid (HS8.out.trans (hb9.mono HS8.out.size))
  have HT9 : Hid (Below w5.heap.size w5 w9) := Lib.hid (HS7.out.trans (HS9.out.mono HS7.out.size))
  clear hb9 hpt HB7 HB8 HS8 HS7
  obtain ⟨bpq, gpq⟩ : ∃ b, (p == q) = b := ⟨_, rfl⟩
  have HE0 : Hid (bpq = endsB p q 0) := Lib.hid (by rw [endsB_zero, gpq])
  go_wp2_with fail
  go_loop [11, 12] (fun e i => ∃ k : Nat, k ≤ q.length ∧ e = .bool (endsB p q k) ∧ i = .int .i64 k) (fun _ i => q.length - (intOf i).toNat)
  case atStart => exact ⟨0, Nat.zero_le _, by rw [HE0.out], rfl⟩
  case round =>
    obtain ⟨k, hk, rfl, rfl⟩ := hrel
    by_cases hlt : k < q.length
    · have hI := fun W => str_at W q k hlt
      obtain ⟨c, hc⟩ : ∃ c, q.getD k 0 = c := ⟨_, rfl⟩
      have hcu : ∀ W, (Instr.slice 9 (.string ⟨q.toArray⟩) (some (.int .i64 ((k : Int) + 1))) none none).run Tryd.prog W = .ok (.string ⟨(q.drop (k + 1)).toArray⟩) W := fun W => by
        rw [show ((k : Int) + 1) = ((k + 1 : Nat) : Int) by omega]
        exact str_from W q (k + 1) hlt
      rw [hc] at hI
      have HS1 : Hid (endsB p q (k + 1) = (endsB p q k || (c == 47 && q.drop (k + 1) == p))) := Lib.hid (by rw [endsB_succ, hc])
      generalize endsB p q k = eb at *
      generalize q.drop (k + 1) = qd at *
      obtain ⟨bd, gbd⟩ : ∃ b, (qd == p) = b := ⟨_, rfl⟩
      have HG := Lib.hid gbd
      obtain ⟨b47, g47⟩ : ∃ b, ((c.toNat : Int) == 47) = b := ⟨_, rfl⟩
      have HC47 : Hid ((c == 47) = b47) := Lib.hid (by
        rw [← g47]
        by_cases e : c = 47
        · rw [byte_t _ 47 (by omega) 47 rfl e, beq_iff_eq.2 e]
        · rw [byte_f _ 47 (by omega) 47 rfl e, beq_eq_false_iff_ne.2 e])
      clear hc
      cases eb <;> cases b47 <;> cases bd
      all_goals
        go_wp2_with fail
        go_round
        case rel => exact ⟨k + 1, by omega, by rw [HS1.out, HC47.out, HG.out]; rfl, by go_num⟩
        case measure => simp [intOf]; omega
    · obtain rfl : k = q.length := by omega
      obtain ⟨be, hbe⟩ : ∃ b, endsB p q q.length = b := ⟨_, rfl⟩
      obtain ⟨bu, hbu⟩ : ∃ b, underB q p = b := ⟨_, rfl⟩
      have hpq : bpq = true ↔ p = q := by rw [← gpq, beq_iff_eq]
      have MX : Hid (matchB (litP (namesL p)) (namesL q) = bpq) := Lib.hid (matchB_is means_x hpq)
      have MY : Hid (matchB (litP (namesL p) ++ [none]) (namesL q) = (bpq || bu)) := Lib.hid (matchB_is (means_y HCP.out) (by rw [Bool.or_eq_true, hpq, hbu]))
      have MZ : Hid (matchB (none :: litP (namesL p)) (namesL q) = be) := Lib.hid (matchB_is (means_z HCP.out) (by rw [← hbe]; exact endsB_all p q))
      have HU := Lib.hid (fun W => under_any q p W)
      rw [hbu] at HU
      rw [hbe]
      clear hpq hbu hbe hlt hk
      cases bpq <;> cases bu <;> cases be
      all_goals
        go_wp2_with fail
        refine (HM1.out w9 HT9.out q _ (by omega) MX.out).mono ?_
        rintro e w10 ⟨rfl, hb10⟩
        have HB10 := Lib.hid hb10
        clear hb10
        go_wp2_with fail
        refine (HM2.out w10 (HS9.out.trans (HB10.out.mono HS9.out.size)) q _ (by omega) MY.out).mono ?_
        rintro e w11 ⟨rfl, hb11⟩
        have HB11 : Hid (Below w9.heap.size w9 w11) := Lib.hid (HB10.out.trans (hb11.mono HB10.out.size))
        clear hb11 HB10
        go_wp2_with fail
        try (refine (HU.out w11).mono ?_; rintro e w11' ⟨rfl, hw⟩; rw [← hw]; clear hw; go_wp2_with fail)
        refine (HM3.out w11 HB11.out q _ (by omega) MZ.out).mono ?_
        rintro e w12 ⟨rfl, hb12⟩
        have HB12 : Hid (Below w9.heap.size w9 w12) := Lib.hid (HB11.out.trans (hb12.mono HB11.out.size))
        clear hb12 HB11
        go_wp2_with fail
        go_ret
        exact ⟨rfl, HB9.out.trans (HB12.out.mono HB9.out.size)⟩
end Go.Proofs.YtkecpmhpdginpaaDoor
