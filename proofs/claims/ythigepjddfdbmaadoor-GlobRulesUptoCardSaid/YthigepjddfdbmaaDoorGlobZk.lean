/- The reference's Skips. -/
import Derived.Test.YthigepjddfdbmaaDoorGlobZj
namespace Go.Proofs.YthigepjddfdbmaaDoor
open Go.RowKit Go.Lib
theorem StrsC.take {S : Nat → Prop} {w : World} {a : Option Addr} {c : Nat} {l : List Txt} (h : StrsC S w (.slice a l.length c) l) {k : Nat} (hk : k ≤ l.length) : StrsC S w (.slice a k c) (l.take k) := by
  cases k with
  | zero => exact Or.inl ⟨List.take_zero, a, c, rfl⟩
  | succ k =>
    obtain ⟨b, rfl, h1, h2, h3⟩ := h.at (by omega)
    have e : (l.take (k + 1)).length = k + 1 := by rw [List.length_take]; omega
    refine Or.inr ⟨b, c, by rw [e], h1, by omega, fun i hi => ?_⟩
    rw [e] at hi
    rw [h3 i (by omega)]
    simp [List.getD, hi]
theorem join_size {l : List Txt} (h : l ≠ []) : sumL l = (joinL l).length + 1 := by
  cases l with
  | nil => exact absurd rfl h
  | cons a r =>
    rw [sumL_cons, sumL_flat]
    show _ = (a ++ r.flatMap (fun b => (47 : UInt8) :: b)).length + 1
    rw [List.length_append]; omega
theorem sum_names (s : Txt) : sumL (namesL s) ≤ s.length + 1 := by
  by_cases h : namesL s = []
  · rw [h]; exact Nat.zero_le _
  · rw [join_size h, join_names]; exact Nat.le_refl _
theorem join_empty {l : List Txt} (h : joinL l = []) : l = [] ∨ l = [[]] := by
  cases l with
  | nil => exact Or.inl rfl
  | cons a r =>
    have h1 := List.append_eq_nil_iff.1 (show a ++ r.flatMap (fun b => (47 : UInt8) :: b) = [] from h)
    cases r with
    | nil => right; rw [h1.1]
    | cons b r => exact absurd h1.2 (by simp)
theorem names_ahead {s : Txt} (h0 : 0 < (namesL s).length) (h : (namesL s).getD 0 [] = []) : AheadP s := by
  unfold AheadP
  cases s with
  | nil => exact Or.inl rfl
  | cons c t =>
    right
    have e : namesL (c :: t) = splitL (c :: t) := names_split (by simp)
    rw [e] at h
    by_cases hc : c = 47
    · exact hc
    · rw [splitL_cons hc] at h
      exact absurd h (by simp [List.getD])
instance (s : Txt) : Decidable (AheadP s) := inferInstanceAs (Decidable (s = [] ∨ s.getD 0 0 = 47))
/-- What the reference asks at a beginning. -/
def hitB (rs : List RuleN) (s : Txt) (j : Nat) : Bool := passM rs (namesL (joinL ((namesL s).take j))) && (decide (0 < j) || decide (AheadP s))
theorem hit_def (rs : List RuleN) (s : Txt) (j : Nat) : hitB rs s j = (passM rs (namesL (joinL ((namesL s).take j))) && (decide (0 < j) || decide (AheadP s))) := rfl
theorem names_back {l : List Txt} (h : l ≠ [[]]) (h47 : ∀ x ∈ l, (47 : UInt8) ∉ x) : namesL (joinL l) = l := by
  by_cases h0 : l = []
  · subst h0; rfl
  · have hne : joinL l ≠ [] := fun e => by
      rcases join_empty e with h1 | h1
      · exact h0 h1
      · exact h h1
    rw [names_split hne]
    exact split_join h0 h47
theorem names_47 (s : Txt) : ∀ x ∈ namesL s, (47 : UInt8) ∉ x := by
  intro x hx
  unfold namesL at hx
  split at hx
  · cases hx
  · exact splitL_parts s x hx
theorem hit_iff (rs : List RuleN) (s : Txt) : SkipsP rs s ↔ ∃ j, j ≤ (namesL s).length ∧ hitB rs s j = true := by
  have h47 : ∀ j, ∀ x ∈ (namesL s).take j, (47 : UInt8) ∉ x := fun j x hx => names_47 s x (List.mem_of_mem_take hx)
  unfold SkipsP HitP hitB
  simp only [passN_eq, Bool.and_eq_true, Bool.or_eq_true, decide_eq_true_eq]
  constructor
  · rintro (⟨h1, h2⟩ | ⟨i, h1, h2, h3⟩)
    · exact ⟨0, Nat.zero_le _, by rw [List.take_zero]; exact h2, Or.inr h1⟩
    · refine ⟨i + 1, h1, ?_, Or.inl (Nat.succ_pos _)⟩
      rw [names_back (fun e => ?_) (h47 _)]
      · exact h3
      · have hl := congrArg List.length e
        rw [List.length_take] at hl
        have hi : i = 0 := by simp at hl; omega
        subst hi
        refine h2 ⟨rfl, ?_⟩
        have h4 := congrArg (fun l => l.getD 0 []) e
        have h5 : ((namesL s).take 1).getD 0 [] = (namesL s).getD 0 [] := by simp [List.getD]
        exact h5.symm.trans h4
  · rintro ⟨j, h1, h2, h3⟩
    cases j with
    | zero => exact Or.inl ⟨h3.resolve_left (by omega), by rw [List.take_zero] at h2; exact h2⟩
    | succ i =>
      by_cases he : (namesL s).take (i + 1) = [[]]
      · have hl := congrArg List.length he
        rw [List.length_take] at hl
        have hi : i = 0 := by simp at hl; omega
        subst hi
        have h4 := congrArg (fun l => l.getD 0 []) he
        have h5 : ((namesL s).take 1).getD 0 [] = (namesL s).getD 0 [] := by simp [List.getD]
        refine Or.inl ⟨names_ahead (by omega) (h5.symm.trans h4), ?_⟩
        rw [he] at h2
        exact h2
      · rw [names_back he (h47 _)] at h2
        by_cases h6 : i = 0 ∧ (namesL s).getD 0 [] = []
        · obtain ⟨rfl, h7⟩ := h6
          exfalso
          refine he ?_
          have h8 : (namesL s).take 1 = [(namesL s).getD 0 []] := by
            rw [take_snoc (by omega)]; rfl
          rw [h8, h7]
        · exact Or.inr ⟨i, h1, h6, h2⟩
theorem skipsB_hit {rs : List RuleN} {s : Txt} {j : Nat} (hj : j ≤ (namesL s).length) (h : hitB rs s j = true) : skipsB rs s = true := (skipsB_iff rs s).2 ((hit_iff rs s).2 ⟨j, hj, h⟩)
theorem skipsB_miss {rs : List RuleN} {s : Txt} (h : ∀ j, j ≤ (namesL s).length → hitB rs s j = false) : skipsB rs s = false := by
  cases hb : skipsB rs s with
  | false => rfl
  | true =>
    obtain ⟨j, hj, h1⟩ := (hit_iff rs s).1 ((skipsB_iff rs s).1 hb)
    rw [h j hj] at h1; cases h1
set_option maxRecDepth 100000 in
set_option maxHeartbeats 4000000 in
theorem rskips_any (S : Nat → Prop) (v : Value) (L : List Txt) (s : Txt) (w : World) (hS : ∀ k, S k → k < w.heap.size) (hv : StrsC S w v L) (hL : L.length ≤ 1048576) (hT : ∀ x ∈ L, x.length ≤ 1048576) (hs : s.length ≤ 1000000) {rs : List RuleN} (hn : newGo 0 L = .ok rs) {b : Bool} (hb : skipsB rs s = b) :
    Calls Tryd.prog 17 #[v, .string ⟨s.toArray⟩] w fun e w' => e = .returned (.bool b) ∧ Below w.heap.size w w' := by
  have HYES := Lib.hid (fun j hj h => (skipsB_hit (rs := rs) (s := s) (j := j) hj h).symm.trans hb)
  have HNOT := Lib.hid (fun h => (skipsB_miss (rs := rs) (s := s) h).symm.trans hb)
  have HSP := Lib.hid (rsplit_any s w (by omega))
  have hsum := sum_names s
  have hMl := namesL_len s
  have HH := Lib.hid (fun j => hit_def rs s j)
  obtain ⟨M, hM⟩ : ∃ M, namesL s = M := ⟨_, rfl⟩
  rw [hM] at HYES HNOT HSP hsum hMl HH
  obtain ⟨la, lc, rfl⟩ := hv.shape
  have HSK := Lib.hid (fun (W : World) (hW : Below w.heap.size w W) (u : Txt) (hu : u.length ≤ 3000000) q hq => skipped_any S (.slice la L.length lc) L u W (fun k hk => Nat.lt_of_lt_of_le (hS k hk) hW.size) (hv.kept (S' := S) (w' := W) (fun k hk => ⟨hk, hW.block k (hS k hk)⟩)) hL hT hu hn (b := q) hq)
  clear hv hn hb hS hT hM
  go_enter Tryd.func17, Tryd.ntmps17
  go_wp2_with fail
  refine HSP.out.mono ?_
  rintro e w1 ⟨v1, rfl, hv1, hb1⟩
  obtain ⟨ua, uc, rfl⟩ := ownS_slice hv1
  have HV1 := Lib.hid (fun (W : World) (hW : Below w1.heap.size w1 W) => (ownS_c hv1).kept (S' := fun k => k < w1.heap.size) (w' := W) (fun k hk => ⟨hk.2, hW.block k hk.2⟩))
  have HB1 := Lib.hid hb1
  clear hv1 hb1 HSP
  go_wp2_with fail
  go_loopw [6] (fun i wr => ∃ k : Nat, k ≤ M.length + 1 ∧ i = .int .i64 (k : Int) ∧ Hid (∀ j, j < k → hitB rs s j = false) ∧ Hid (Below w1.heap.size w1 wr)) (fun i _ => M.length + 1 - (intOf i).toNat)
  case atStart => exact ⟨0, Nat.zero_le _, rfl, Lib.hid (fun j hj => absurd hj (by omega)), Lib.hid (Below.refl _ _)⟩
  case round =>
    obtain ⟨k, hk, rfl, hE, hB⟩ := hrel
    have HBW : Hid (Below w.heap.size w wr) := Lib.hid (HB1.out.trans (hB.out.mono HB1.out.size))
    by_cases hlt : k ≤ M.length
    · have HJ := Lib.hid (rjoin_any _ _ _ wr ((HV1.out wr hB.out).take hlt) (by have := sumL_take M k; omega))
      have hul : (joinL (M.take k)).length ≤ 3000000 := by have := sumL_join (M.take k); have := sumL_take M k; omega
      obtain ⟨u, hu⟩ : ∃ u, joinL (M.take k) = u := ⟨_, rfl⟩
      obtain ⟨q, hq⟩ : ∃ q, passM rs (namesL u) = q := ⟨_, rfl⟩
      have HK : Hid (hitB rs s k = (q && (decide (0 < k) || decide (AheadP s)))) := Lib.hid (by rw [HH.out k, hu, hq])
      rw [hu] at HJ hul
      have HSK2 := Lib.hid (HSK.out wr HBW.out u hul q hq)
      have hkc : k ≤ uc := by
        by_cases h0 : M.length = 0
        · omega
        · obtain ⟨_, _, _, h3, _⟩ := (HV1.out wr hB.out).at (by omega)
          omega
      clear hu hq
      go_wp2_with fail
      refine HJ.out.mono ?_
      rintro e w4 ⟨rfl, rfl⟩
      clear HJ
      go_wp2_with fail
      refine HSK2.out.mono ?_
      rintro e w5 ⟨rfl, hb5⟩
      have HB5 := Lib.hid (hB.out.trans (hb5.mono hB.out.size))
      have HBW5 := Lib.hid (HBW.out.trans (hb5.mono HBW.out.size))
      clear hb5 HSK2
      cases q
      · have HN : Hid (hitB rs s k = false) := Lib.hid (by rw [HK.out]; rfl)
        go_wp2_with fail
        go_roundw
        case rel => exact ⟨k + 1, by omega, by go_num, Lib.hid (fun j hj => by
          by_cases e : j = k
          · rw [e]; exact HN.out
          · exact hE.out j (by omega)), HB5⟩
        case measure => simp [intOf]; omega
      · by_cases hk0 : 0 < k
        · have HE : Hid (b = true) := Lib.hid (HYES.out k hlt (by rw [HK.out, decide_eq_true hk0]; rfl)).symm
          go_wp2_with fail
          go_ret
          exact ⟨by rw [HE.out]; rfl, HBW5.out⟩
        · by_cases hs0 : s = []
          · have HE : Hid (b = true) := Lib.hid (HYES.out k hlt (by rw [HK.out, decide_eq_true (show AheadP s from Or.inl hs0), Bool.or_true]; rfl)).symm
            have g0 : s.isEmpty = true := by rw [hs0]; rfl
            go_wp2_with fail
            go_ret
            exact ⟨by rw [HE.out]; rfl, HBW5.out⟩
          · have g0 : s.isEmpty = false := by cases s; exact absurd rfl hs0; rfl
            have hI : ∀ W, (Instr.index 9 (.string ⟨s.toArray⟩) (.int .i64 0)).run Tryd.prog W = .ok (.int .u8 ((s.getD 0 0).toNat : Nat)) W := fun W => str_at W s 0 (by cases s; exact absurd rfl hs0; simp)
            have HS0 := Lib.hid hs0
            have HK0 := Lib.hid hk0
            obtain ⟨c, hc⟩ : ∃ c, s.getD 0 0 = c := ⟨_, rfl⟩
            rw [hc] at hI
            have HC := Lib.hid hc
            clear hc
            by_cases h47 : c = 47
            · have g1 : ((c.toNat : Int) == 47) = true := byte_t _ 47 (by omega) 47 rfl h47
              have HE : Hid (b = true) := Lib.hid (HYES.out k hlt (by rw [HK.out, decide_eq_true (show AheadP s from Or.inr (HC.out.trans h47)), Bool.or_true]; rfl)).symm
              clear h47
              go_wp2_with fail
              go_ret
              exact ⟨by rw [HE.out]; rfl, HBW5.out⟩
            · have g1 : ((c.toNat : Int) == 47) = false := byte_f _ 47 (by omega) 47 rfl h47
              have HN : Hid (hitB rs s k = false) := Lib.hid (by
                rw [HK.out, decide_eq_false HK0.out, decide_eq_false (show ¬ AheadP s from fun h => h.elim HS0.out (fun e => h47 (HC.out.symm.trans e)))]; rfl)
              clear h47
              go_wp2_with fail
              go_roundw
              case rel => exact ⟨k + 1, by omega, by go_num, Lib.hid (fun j hj => by
                by_cases e : j = k
                · rw [e]; exact HN.out
                · exact hE.out j (by omega)), HB5⟩
              case measure => simp [intOf]; omega
    · have HE : Hid (b = false) := Lib.hid (HNOT.out (fun j hj => hE.out j (by omega))).symm
      have HBE : Hid (Below w.heap.size w wr) := HBW
      go_wp2_with fail
      go_ret
      exact ⟨by rw [HE.out]; rfl, HBE.out⟩
end Go.Proofs.YthigepjddfdbmaaDoor
