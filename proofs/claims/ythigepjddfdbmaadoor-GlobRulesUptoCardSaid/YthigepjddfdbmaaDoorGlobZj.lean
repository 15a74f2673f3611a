/- The reference's Rules and skipped. -/
import Derived.Test.YthigepjddfdbmaaDoorGlobZh
namespace Go.Proofs.YthigepjddfdbmaaDoor
open Go.RowKit Go.Lib
theorem rmatch_b (pat s : Txt) (w : World) (hp : pat.length ≤ 4000000) (hm : s.length ≤ 3999990) {ps : List PieceN} (hok : parseN pat = .ok ps) {b : Bool} (hb : matchB ps (namesL s) = b) :
    Calls Tryd.prog 13 #[.string ⟨pat.toArray⟩, .string ⟨s.toArray⟩] w fun e w' => e = .returned (.bool b) ∧ Below w.heap.size w w' :=
  (rmatch_any pat s w hp hm hok).mono fun e w' hT => by
    have hi := matchB_iff ps (namesL s)
    cases b with
    | true => exact hT.yes (hi.1 hb)
    | false => exact hT.no (fun hm => by rw [hi.2 hm] at hb; cases hb)
theorem str_tail (w : World) (x : Txt) (k : Nat) (h2 : k ≤ x.length) : (Instr.slice 9 (.string ⟨x.toArray⟩) (some (.int .i64 (k : Int))) none none).run Tryd.prog w = .ok (.string ⟨(x.drop k).toArray⟩) w := by
  rw [run_slice_string_l _ _ _ (by kernel_rfl) _ _ (by omega) (by rw [at_size]; omega)]
  congr 2
  have e2 : (k : Int).toNat = k := by omega
  rw [e2, at_size, extract_list, List.take_of_length_le (by simp)]
/-- The numbers of the lines' error and of its line. -/
def outR (o : Except (Int × Nat) (List RuleN)) : Int × Nat := match o with
  | .error p => p
  | .ok _ => (0, 0)
def lineX (t : Txt) : Txt := if [33].isPrefixOf t = true then t.drop 1 else t
theorem newGo_pass {i : Nat} {t : Txt} {r : List Txt} (h : t = [] ∨ t.getD 0 0 = 35) : newGo i (t :: r) = newGo (i + 1) r := by rw [newGo, if_pos h]
theorem newGo_line {i : Nat} {t : Txt} {r : List Txt} (h : ¬ (t = [] ∨ t.getD 0 0 = 35)) : newGo i (t :: r) = match parseN (lineX t) with
    | .error c => .error (c, i)
    | .ok ps => match newGo (i + 1) r with
      | .error e => .error e
      | .ok l => .ok (⟨ps, [33].isPrefixOf t⟩ :: l) := by rw [newGo, if_neg h]; rfl
theorem outR_bad {i : Nat} {t : Txt} {r : List Txt} {c : Int} (h : ¬ (t = [] ∨ t.getD 0 0 = 35)) (hc : parseN (lineX t) = .error c) : outR (newGo i (t :: r)) = (c, i) := by
  rw [newGo_line h, hc]; rfl
theorem outR_ok {i : Nat} {t : Txt} {r : List Txt} {ps : List PieceN} (h : ¬ (t = [] ∨ t.getD 0 0 = 35)) (hc : parseN (lineX t) = .ok ps) : outR (newGo i (t :: r)) = outR (newGo (i + 1) r) := by
  rw [newGo_line h, hc]
  show outR (match newGo (i + 1) r with
    | .error e => .error e
    | .ok l => .ok (⟨ps, [33].isPrefixOf t⟩ :: l)) = _
  cases newGo (i + 1) r <;> rfl
theorem pre_bang {t : Txt} (h : t ≠ []) : [33].isPrefixOf t = decide (t.getD 0 0 = 33) := by
  cases t with
  | nil => exact absurd rfl h
  | cons c t =>
    show ((33 : UInt8) == c && true) = decide (c = 33)
    rw [Bool.and_true, Bool.eq_iff_iff, beq_iff_eq, decide_eq_true_eq]
    exact eq_comm
theorem lineX_yes {t : Txt} (h : t ≠ []) (h2 : t.getD 0 0 = 33) : lineX t = t.drop 1 := by unfold lineX; rw [pre_bang h, if_pos (decide_eq_true h2)]
theorem lineX_no {t : Txt} (h : t ≠ []) (h2 : t.getD 0 0 ≠ 33) : lineX t = t := by unfold lineX; rw [pre_bang h, decide_eq_false h2]; rfl
theorem lineX_len (t : Txt) : (lineX t).length ≤ t.length := by
  unfold lineX
  split
  · rw [List.length_drop]; omega
  · exact Nat.le_refl _
theorem code_of {s : Txt} : codeN s = 0 ↔ ∃ ps, parseN s = .ok ps := by
  unfold codeN
  cases hp : parseN s with
  | ok ps => exact ⟨fun _ => ⟨ps, rfl⟩, fun _ => rfl⟩
  | error c =>
    refine ⟨fun h => ?_, fun ⟨ps, h⟩ => by cases h⟩
    have h0 : c = 0 := h
    unfold parseN at hp
    split at hp
    · injection hp with hp; omega
    · split at hp
      · injection hp with hp; omega
      · cases hp
set_option maxRecDepth 100000 in
set_option maxHeartbeats 4000000 in
theorem rrules_any (S : Nat → Prop) (v : Value) (L : List Txt) (w : World) (hS : ∀ k, S k → k < w.heap.size) (hv : StrsC S w v L) (hL : L.length ≤ 1048576) (hT : ∀ x ∈ L, x.length ≤ 1048576) :
    Calls Tryd.prog 15 #[v] w fun e w' => e = .returned (.tuple #[.int .i64 (outR (newGo 0 L)).1, .int .i64 ((outR (newGo 0 L)).2 : Int)]) ∧ Below w.heap.size w w' := by
  obtain ⟨R, hR⟩ : ∃ R, outR (newGo 0 L) = R := ⟨_, rfl⟩
  have HR : Hid (outR (newGo 0 (L.drop 0)) = R) := Lib.hid (by rw [List.drop_zero]; exact hR)
  rw [hR]
  obtain ⟨la, lc, rfl⟩ := hv.shape
  have HV := Lib.hid (fun (W : World) (hb : Below w.heap.size w W) => hv.kept (S' := S) (w' := W) (fun k hk => ⟨hk, hb.block k (hS k hk)⟩))
  have HT := Lib.hid hT
  clear hv hR hS hT
  go_enter Tryd.func15, Tryd.ntmps15
  go_wp2_with fail
  go_loopw [4] (fun i wr => ∃ k : Nat, k ≤ L.length ∧ i = .int .i64 (k : Int) ∧ Hid (outR (newGo k (L.drop k)) = R) ∧ Hid (Below w.heap.size w wr)) (fun i _ => L.length - (intOf i).toNat)
  case atStart => exact ⟨0, Nat.zero_le _, rfl, HR, Lib.hid (Below.refl _ _)⟩
  case round =>
    obtain ⟨k, hk, rfl, hE, hB⟩ := hrel
    by_cases hlt : k < L.length
    · obtain ⟨lb, rfl, _, hlc, hcell⟩ := (HV.out wr hB.out).at (by omega)
      have c1 := hcell k hlt
      have HD : Hid (L.drop k = L.getD k [] :: L.drop (k + 1)) := Lib.hid (by rw [List.drop_eq_getElem_cons hlt]; simp [List.getD, hlt])
      have htl : (L.getD k []).length ≤ 1048576 := HT.out _ (getD_in hlt)
      clear hcell
      generalize L.getD k [] = t at *
      have HE2 : Hid (outR (newGo k (t :: L.drop (k + 1))) = R) := Lib.hid (by rw [← HD.out]; exact hE.out)
      clear hE
      by_cases h0 : t = []
      · have HE3 : Hid (outR (newGo (k + 1) (L.drop (k + 1))) = R) := Lib.hid (by rw [← HE2.out, newGo_pass (Or.inl h0)])
        subst h0
        go_wp2_with fail
        go_roundw
        case rel => exact ⟨k + 1, by omega, by go_num, HE3, hB⟩
        case measure => simp [intOf]; omega
      have g0 : t.isEmpty = false := by cases t; exact absurd rfl h0; rfl
      have hI : ∀ W, (Instr.index 9 (.string ⟨t.toArray⟩) (.int .i64 0)).run Tryd.prog W = .ok (.int .u8 ((t.getD 0 0).toNat : Nat)) W := fun W => str_at W t 0 (by cases t; exact absurd rfl h0; simp)
      have hl1 : 1 ≤ t.length := by cases t; exact absurd rfl h0; simp
      obtain ⟨ch, hch⟩ : ∃ ch, t.getD 0 0 = ch := ⟨_, rfl⟩
      rw [hch] at hI
      by_cases h35 : ch = 35
      · have HE3 : Hid (outR (newGo (k + 1) (L.drop (k + 1))) = R) := Lib.hid (by rw [← HE2.out, newGo_pass (Or.inr (hch.trans h35))])
        have g4 : ((ch.toNat : Int) == 35) = true := byte_t _ 35 (by omega) 35 rfl h35
        clear h0 h35 hch
        go_wp2_with fail
        go_roundw
        case rel => exact ⟨k + 1, by omega, by go_num, HE3, hB⟩
        case measure => simp [intOf]; omega
      · have g4 : ((ch.toNat : Int) == 35) = false := byte_f _ 35 (by omega) 35 rfl h35
        have HNO : Hid (¬ (t = [] ∨ t.getD 0 0 = 35)) := Lib.hid (fun h => h.elim h0 (fun e => h35 (hch.symm.trans e)))
        obtain ⟨x, hx⟩ : ∃ x, lineX t = x := ⟨_, rfl⟩
        have HX := Lib.hid hx
        have hxl : x.length ≤ 1048576 := by rw [← hx]; have := lineX_len t; omega
        have HY := Lib.hid (fun h => lineX_yes h0 h)
        have HN := Lib.hid (fun h => lineX_no h0 h)
        have HCH := Lib.hid hch
        clear h0 h35 hch hx
        go_upto_if 26 with fail
        go_cut [5] (fun s5 wx => s5 = .string ⟨x.toArray⟩ ∧ wx = wr)
        case first =>
          by_cases h33 : ch = 33
          · have g5 : ((ch.toNat : Int) == 33) = true := byte_t _ 33 (by omega) 33 rfl h33
            have hcd : ∀ W, (Instr.slice 9 (.string ⟨t.toArray⟩) (some (.int .i64 1)) none none).run Tryd.prog W = .ok (.string ⟨(t.drop 1).toArray⟩) W := fun W => str_tail W t 1 hl1
            have HXE : Hid (x = t.drop 1) := Lib.hid (by rw [← HX.out]; exact HY.out (HCH.out.trans h33))
            clear h33
            generalize t.drop 1 = z at *
            go_wp2_with fail
            go_meet
            exact ⟨by rw [HXE.out], rfl⟩
          · have g5 : ((ch.toNat : Int) == 33) = false := byte_f _ 33 (by omega) 33 rfl h33
            have HXE : Hid (x = t) := Lib.hid (by rw [← HX.out]; exact HN.out (fun e => h33 (HCH.out.symm.trans e)))
            clear h33
            go_wp2_with fail
            go_meet
            exact ⟨by rw [HXE.out], rfl⟩
        case rest =>
          obtain ⟨rfl, rfl⟩ := hcut
          have HCK := Lib.hid (rcheck_any x wc (by omega))
          clear HY HN hI
          go_wp2_with fail
          refine HCK.out.mono ?_
          rintro e w5 ⟨rfl, hb5⟩
          have HB5 : Hid (Below w.heap.size w w5) := Lib.hid (hB.out.trans (hb5.mono hB.out.size))
          clear hb5 HCK
          cases hpx : parseN x with
          | error c =>
            have hcc : codeN x = c := by unfold codeN; rw [hpx]
            have hc0 : c ≠ 0 := fun e => by
              obtain ⟨ps, h⟩ := code_of.1 (hcc.trans e)
              rw [hpx] at h; cases h
            have HRE : Hid (R = (c, k)) := Lib.hid (by rw [← HE2.out]; exact outR_bad HNO.out (by rw [HX.out]; exact hpx))
            rw [hcc]
            have g6 : (c == 0) = false := by rw [beq_eq_false_iff_ne]; exact hc0
            have g7 : (c != 0) = true := by rw [bne, g6]; rfl
            clear hpx hcc hc0
            go_wp2_with fail
            refine bodyPost_ret (v := .tuple #[.int .i64 c, .int .i64 (k : Int)]) (by simp [results, Tryd.results15, go_sem]) rfl ⟨?_, HB5.out⟩
            rw [HRE.out]
          | ok ps =>
            have hcc : codeN x = 0 := code_of.2 ⟨ps, hpx⟩
            have HRE : Hid (outR (newGo (k + 1) (L.drop (k + 1))) = R) := Lib.hid (by rw [← HE2.out]; exact (outR_ok HNO.out (by rw [HX.out]; exact hpx)).symm)
            rw [hcc]
            clear hpx hcc
            go_wp2_with fail
            go_roundw
            case rel => exact ⟨k + 1, by omega, by go_num, HRE, HB5⟩
            case measure => simp [intOf]; omega
    · have HRE : Hid (R = (0, 0)) := Lib.hid (by rw [← hE.out, List.drop_eq_nil_of_le (by omega)]; rfl)
      go_wp2_with fail
      refine bodyPost_ret (v := .tuple #[.int .i64 0, .int .i64 0]) (by simp [results, Tryd.results15, go_sem]) rfl ⟨?_, hB.out⟩
      rw [HRE.out]; rfl
theorem passL_same {rs rs' : List RuleN} {g g' : Nat → Bool} : ∀ (l : List Nat), (∀ y ∈ l, rs.getD y ⟨[], false⟩ = rs'.getD y ⟨[], false⟩ ∧ g y = g' y) → passL rs g l = passL rs' g' l
  | [], _ => rfl
  | y :: l, h => by
    have h1 := h y List.mem_cons_self
    rw [passL_cons, passL_cons, h1.1, h1.2, passL_same l (fun z hz => h z (List.mem_cons_of_mem _ hz))]
theorem getD_left {r0 r1 : List RuleN} {y : Nat} (h : y < r0.length) : (r0 ++ r1).getD y ⟨[], false⟩ = r0.getD y ⟨[], false⟩ := by
  simp only [List.getD]; rw [List.getElem?_append_left h]
theorem passM_snoc (r0 : List RuleN) (r : RuleN) (M : List Txt) : passM (r0 ++ [r]) M = if matchB r.ps M = true then !r.lets else passM r0 M := by
  unfold passM passB
  have e1 : (r0 ++ [r]).getD r0.length ⟨[], false⟩ = r := by simp [List.getD]
  rw [List.length_append, List.length_singleton, List.range_succ, List.reverse_append, List.reverse_singleton, List.singleton_append, passL_cons, e1]
  have e2 : matchB (psK (r0 ++ [r]) r0.length) M = matchB r.ps M := by unfold psK; rw [e1]
  rw [e2]
  by_cases h : matchB r.ps M = true
  · rw [if_pos h, if_pos h]; rfl
  · rw [if_neg h, if_neg h, passL_same (rs' := r0) (g' := fun k => matchB (psK r0 k) M) _ (fun y hy => ?_)]
    have hy2 : y < r0.length := List.mem_range.1 (List.mem_reverse.1 hy)
    refine ⟨getD_left hy2, ?_⟩
    unfold psK
    rw [getD_left hy2]
theorem passM_nil (M : List Txt) : passM [] M = false := rfl
theorem newGo_in {i : Nat} {t : Txt} {r : List Txt} {r1 : List RuleN} (h : ¬ (t = [] ∨ t.getD 0 0 = 35)) (hn : newGo i (t :: r) = .ok r1) : ∃ ps l, parseN (lineX t) = .ok ps ∧ newGo (i + 1) r = .ok l ∧ r1 = ⟨ps, [33].isPrefixOf t⟩ :: l := by
  rw [newGo_line h] at hn
  cases hp : parseN (lineX t) with
  | error c => rw [hp] at hn; cases hn
  | ok ps =>
    rw [hp] at hn
    cases hg : newGo (i + 1) r with
    | error e =>
      have hn2 : (match newGo (i + 1) r with
        | .error e => .error e
        | .ok l => .ok (⟨ps, [33].isPrefixOf t⟩ :: l) : Except (Int × Nat) (List RuleN)) = .ok r1 := hn
      rw [hg] at hn2; cases hn2
    | ok l =>
      have hn2 : (match newGo (i + 1) r with
        | .error e => .error e
        | .ok l => .ok (⟨ps, [33].isPrefixOf t⟩ :: l) : Except (Int × Nat) (List RuleN)) = .ok r1 := hn
      rw [hg] at hn2
      injection hn2 with hn2
      exact ⟨ps, l, rfl, rfl, hn2.symm⟩
set_option maxRecDepth 100000 in
set_option maxHeartbeats 4000000 in
theorem skipped_any (S : Nat → Prop) (v : Value) (L : List Txt) (s : Txt) (w : World) (hS : ∀ k, S k → k < w.heap.size) (hv : StrsC S w v L) (hL : L.length ≤ 1048576) (hT : ∀ x ∈ L, x.length ≤ 1048576) (hs : s.length ≤ 3000000) {rs : List RuleN} (hn : newGo 0 L = .ok rs) {b : Bool} (hb : passM rs (namesL s) = b) :
    Calls Tryd.prog 36 #[v, .string ⟨s.toArray⟩] w fun e w' => e = .returned (.bool b) ∧ Below w.heap.size w w' := by
  have HN0 : Hid (newGo 0 (L.drop 0) = .ok rs) := Lib.hid (by rw [List.drop_zero]; exact hn)
  have HBV := Lib.hid hb
  obtain ⟨la, lc, rfl⟩ := hv.shape
  have HV := Lib.hid (fun (W : World) (hb : Below w.heap.size w W) => hv.kept (S' := S) (w' := W) (fun k hk => ⟨hk, hb.block k (hS k hk)⟩))
  have HT := Lib.hid hT
  have HM := Lib.hid (fun pat W (hp : pat.length ≤ 4000000) ps (hok : parseN pat = .ok ps) b hb => rmatch_b pat s W hp (by omega) hok (b := b) hb)
  generalize namesL s = M at *
  clear hv hn hb hS hT
  go_enter Tryd.func36, Tryd.ntmps36
  go_wp2_with fail
  go_loopw [5, 6] (fun o i wr => ∃ (k : Nat) (r0 r1 : List RuleN) (q : Bool), o = .bool q ∧ k ≤ L.length ∧ i = .int .i64 (k : Int) ∧ Hid (passM r0 M = q) ∧ Hid (rs = r0 ++ r1) ∧ Hid (newGo k (L.drop k) = .ok r1) ∧ Hid (Below w.heap.size w wr)) (fun _ i _ => L.length - (intOf i).toNat)
  case atStart => exact ⟨0, [], rs, false, rfl, Nat.zero_le _, rfl, Lib.hid rfl, Lib.hid rfl, HN0, Lib.hid (Below.refl _ _)⟩
  case round =>
    obtain ⟨k, r0, r1, q, rfl, hk, rfl, HQ, HRS, hE, hB⟩ := hrel
    by_cases hlt : k < L.length
    · obtain ⟨lb, rfl, _, hlc, hcell⟩ := (HV.out wr hB.out).at (by omega)
      have c1 := hcell k hlt
      have HD : Hid (L.drop k = L.getD k [] :: L.drop (k + 1)) := Lib.hid (by rw [List.drop_eq_getElem_cons hlt]; simp [List.getD, hlt])
      have htl : (L.getD k []).length ≤ 1048576 := HT.out _ (getD_in hlt)
      clear hcell
      generalize L.getD k [] = t at *
      have HE2 : Hid (newGo k (t :: L.drop (k + 1)) = .ok r1) := Lib.hid (by rw [← HD.out]; exact hE.out)
      clear hE
      by_cases h0 : t = []
      · have HE3 : Hid (newGo (k + 1) (L.drop (k + 1)) = .ok r1) := Lib.hid (by rw [← HE2.out, newGo_pass (Or.inl h0)])
        subst h0
        go_wp2_with fail
        go_roundw
        case rel => exact ⟨k + 1, r0, r1, q, rfl, by omega, by go_num, HQ, HRS, HE3, hB⟩
        case measure => simp [intOf]; omega
      have g0 : t.isEmpty = false := by cases t; exact absurd rfl h0; rfl
      have hI : ∀ W, (Instr.index 9 (.string ⟨t.toArray⟩) (.int .i64 0)).run Tryd.prog W = .ok (.int .u8 ((t.getD 0 0).toNat : Nat)) W := fun W => str_at W t 0 (by cases t; exact absurd rfl h0; simp)
      have hl1 : 1 ≤ t.length := by cases t; exact absurd rfl h0; simp
      obtain ⟨ch, hch⟩ : ∃ ch, t.getD 0 0 = ch := ⟨_, rfl⟩
      rw [hch] at hI
      by_cases h35 : ch = 35
      · have HE3 : Hid (newGo (k + 1) (L.drop (k + 1)) = .ok r1) := Lib.hid (by rw [← HE2.out, newGo_pass (Or.inr (hch.trans h35))])
        have g4 : ((ch.toNat : Int) == 35) = true := byte_t _ 35 (by omega) 35 rfl h35
        clear h0 h35 hch
        go_wp2_with fail
        go_roundw
        case rel => exact ⟨k + 1, r0, r1, q, rfl, by omega, by go_num, HQ, HRS, HE3, hB⟩
        case measure => simp [intOf]; omega
      · have g4 : ((ch.toNat : Int) == 35) = false := byte_f _ 35 (by omega) 35 rfl h35
        obtain ⟨ps, l, hp1, hp2, hp3⟩ := newGo_in (fun h => h.elim h0 (fun e => h35 (hch.symm.trans e))) HE2.out
        obtain ⟨kp, hkp⟩ : ∃ kp, decide (ch = 33) = kp := ⟨_, rfl⟩
        have hpb : [33].isPrefixOf t = kp := by rw [pre_bang h0, hch]; exact hkp
        rw [hpb] at hp3
        obtain ⟨x, hx⟩ : ∃ x, lineX t = x := ⟨_, rfl⟩
        rw [hx] at hp1
        have hxl : x.length ≤ 1048576 := by rw [← hx]; have := lineX_len t; omega
        have HY : Hid (kp = true → x = t.drop 1) := Lib.hid (fun h => by rw [← hx]; exact lineX_yes h0 (hch.trans (of_decide_eq_true (hkp.trans h))))
        have HN : Hid (kp = false → x = t) := Lib.hid (fun h => by rw [← hx]; exact lineX_no h0 (fun e => of_decide_eq_false (hkp.trans h) (hch.symm.trans e)))
        have g5 : ((ch.toNat : Int) == 33) = kp := (byte_eq ch 33 (by omega)).trans hkp
        have HP1 := Lib.hid hp1
        have HP2 := Lib.hid hp2
        have HP3 := Lib.hid hp3
        clear h0 h35 hch hx hkp hpb hp1 hp2 hp3
        go_upto_if 29 with fail
        go_cut [7] (fun s7 wx => s7 = .string ⟨x.toArray⟩ ∧ wx = wr)
        case first =>
          cases kp
          · have HXE : Hid (x = t) := Lib.hid (HN.out rfl)
            go_wp2_with fail
            go_meet
            exact ⟨by rw [HXE.out], rfl⟩
          · have hcd : ∀ W, (Instr.slice 9 (.string ⟨t.toArray⟩) (some (.int .i64 1)) none none).run Tryd.prog W = .ok (.string ⟨(t.drop 1).toArray⟩) W := fun W => str_tail W t 1 hl1
            have HXE : Hid (x = t.drop 1) := Lib.hid (HY.out rfl)
            generalize t.drop 1 = z at *
            go_wp2_with fail
            go_meet
            exact ⟨by rw [HXE.out], rfl⟩
        case rest =>
          obtain ⟨rfl, rfl⟩ := hcut
          obtain ⟨mb, hmb⟩ : ∃ mb, matchB ps M = mb := ⟨_, rfl⟩
          have HCK := Lib.hid (HM.out x wc (by omega) ps HP1.out mb hmb)
          have HRS2 : Hid (rs = (r0 ++ [⟨ps, kp⟩]) ++ l) := Lib.hid (by rw [HRS.out, HP3.out, List.append_assoc, List.singleton_append])
          have HPM : Hid (passM (r0 ++ [⟨ps, kp⟩]) M = if mb = true then !kp else q) := Lib.hid (by rw [passM_snoc, hmb, HQ.out])
          clear HY HN hI hmb
          go_wp2_with fail
          refine HCK.out.mono ?_
          rintro e w5 ⟨rfl, hb5⟩
          have HB5 : Hid (Below w.heap.size w w5) := Lib.hid (hB.out.trans (hb5.mono hB.out.size))
          clear hb5 HCK
          cases mb
          · go_wp2_with fail
            go_roundw
            case rel => exact ⟨k + 1, r0 ++ [⟨ps, kp⟩], l, q, rfl, by omega, by go_num, Lib.hid (by rw [HPM.out]; rfl), HRS2, HP2, HB5⟩
            case measure => simp [intOf]; omega
          · go_wp2_with fail
            go_roundw
            case rel => exact ⟨k + 1, r0 ++ [⟨ps, kp⟩], l, !kp, rfl, by omega, by go_num, Lib.hid (by rw [HPM.out]; rfl), HRS2, HP2, HB5⟩
            case measure => simp [intOf]; omega
    · have HQE : Hid (q = b) := Lib.hid (by
        have h1 := hE.out
        rw [List.drop_eq_nil_of_le (by omega)] at h1
        have h2 : r1 = [] := by injection h1 with h1; exact h1.symm
        have h3 := HRS.out
        rw [h2, List.append_nil] at h3
        rw [← HQ.out, ← HBV.out, h3])
      go_wp2_with fail
      go_ret
      exact ⟨by rw [HQE.out]; rfl, hB.out⟩
end Go.Proofs.YthigepjddfdbmaaDoor
