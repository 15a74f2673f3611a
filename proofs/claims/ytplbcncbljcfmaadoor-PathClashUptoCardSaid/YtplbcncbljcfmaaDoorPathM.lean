/- The walk of the reference's Compare. -/
import Derived.Test.YtplbcncbljcfmaaDoorPathL
namespace Go.Proofs.YtplbcncbljcfmaaDoor
open Go.RowKit Go.Lib

theorem less_tri (x y : List UInt8) : Op.bytesLess y x = (!(Op.bytesLess x y || x == y)) := by
  induction x generalizing y with
  | nil => cases y <;> simp [Op.bytesLess]
  | cons a u ih =>
    cases y with
    | nil => simp [Op.bytesLess]
    | cons b v =>
      by_cases e : a = b
      · subst e
        rw [less_cons_same, less_cons_same, ih v]
        congr 2
        rw [Bool.eq_iff_iff]; simp
      · have e' : b ≠ a := fun k => e k.symm
        rw [less_cons_ne e, less_cons_ne e']
        have hne : ((a :: u) == (b :: v)) = false := by rw [beq_eq_false_iff_ne]; intro k; exact e (List.cons.inj k).1
        rw [hne, Bool.or_false]
        rw [Bool.eq_iff_iff]
        simp only [decide_eq_true_eq, Bool.not_eq_true', decide_eq_false_iff_not, UInt8.lt_iff_toNat_lt]
        have : a.toNat ≠ b.toNat := fun k => e (UInt8.toNat_inj.1 k)
        omega
theorem cmpQ_step {X Y : List (List UInt8)} {k : Nat} (h1 : k < X.length) (h2 : k < Y.length) : cmpQ (X.drop k) (Y.drop k) = if Op.bytesLess (X.getD k []) (Y.getD k []) = true then -1 else if Op.bytesLess (Y.getD k []) (X.getD k []) = true then 1 else cmpQ (X.drop (k + 1)) (Y.drop (k + 1)) := by
  rw [List.drop_eq_getElem_cons h1, List.drop_eq_getElem_cons h2, cmpQ]
  rw [show X.getD k [] = X[k] by simp [List.getD, List.getElem?_eq_getElem h1], show Y.getD k [] = Y[k] by simp [List.getD, List.getElem?_eq_getElem h2]]
theorem cmpQ_end {X Y : List (List UInt8)} {k : Nat} (h1 : k ≤ X.length) (h2 : k ≤ Y.length) (h : k = X.length ∨ k = Y.length) : cmpQ (X.drop k) (Y.drop k) = if X.length < Y.length then -1 else if Y.length < X.length then 1 else 0 := by
  by_cases e1 : k = X.length
  · by_cases e2 : k = Y.length
    · rw [List.drop_of_length_le (by omega), List.drop_of_length_le (by omega), if_neg (by omega), if_neg (by omega)]; rfl
    · rw [List.drop_of_length_le (by omega), List.drop_eq_getElem_cons (show k < Y.length by omega), if_pos (by omega)]; rfl
  · have e2 : k = Y.length := by omega
    rw [List.drop_eq_getElem_cons (show k < X.length by omega), List.drop_of_length_le (l := Y) (by omega), if_neg (by omega), if_pos (by omega)]; rfl
set_option maxRecDepth 100000 in
set_option maxHeartbeats 4000000 in
theorem rcompare_any (a b : List UInt8) (w : World) (ha : a.length ≤ 4194304) (hb : b.length ≤ 4194304) : Calls Tryd.prog 38 #[.string ⟨a.toArray⟩, .string ⟨b.toArray⟩] w fun e w' => e = .returned (.int .i64 (cmpP a b)) ∧ Below w.heap.size w w' := by
  have HA := Lib.hid (rsplit_any a w ha)
  have HB := Lib.hid (fun W => rsplit_any b W hb)
  have hxl := namesL_len a
  have hyl := namesL_len b
  have HR : Hid (cmpP a b = cmpQ (namesL a) (namesL b)) := Lib.hid (cmpQ_names a b).symm
  generalize namesL a = X at *
  generalize namesL b = Y at *
  go_enter Tryd.func38, Tryd.ntmps38
  go_wp2_with fail
  refine HA.out.mono ?_
  rintro e w1 ⟨va, rfl, ho1, hb1⟩
  have V1 := Lib.hid (ownS_c ho1)
  have B1 := Lib.hid hb1
  have hs1 := hb1.size
  obtain ⟨xa, xc, rfl⟩ := ownS_slice ho1
  clear ho1 hb1
  go_wp2_with fail
  refine (HB.out _).mono ?_
  rintro e w2 ⟨vb, rfl, ho2, hb2⟩
  have V2 := Lib.hid (ownS_c ho2)
  have V1' := Lib.hid (V1.out.kept (S' := fun k => w.heap.size ≤ k ∧ k < w1.heap.size) (w' := w2) (fun k hk => ⟨hk, hb2.block k hk.2⟩))
  have B2 := Lib.hid (B1.out.trans (hb2.mono hs1))
  obtain ⟨ya, yc, rfl⟩ := ownS_slice ho2
  clear ho2 hb2 V1
  go_wp2_with fail
  go_loopw [7] (fun i wr => ∃ k n : Nat, k ≤ X.length ∧ k ≤ Y.length ∧ i = .int .i64 k ∧ Hid (cmpQ (X.drop k) (Y.drop k) = cmpP a b) ∧ wr = w2.drewN n) (fun i _ => X.length - (intOf i).toNat)
  case atStart => exact ⟨0, 0, Nat.zero_le _, Nat.zero_le _, rfl, Lib.hid HR.out.symm, rfl⟩
  case round =>
    obtain ⟨k, n, hk1, hk2, rfl, hq, rfl⟩ := hrel
    by_cases h12 : k < X.length ∧ k < Y.length
    · obtain ⟨h1, h2⟩ := h12
      obtain ⟨bx, rfl, _, _, hx⟩ := V1'.out.at (by omega)
      obtain ⟨byy, rfl, _, _, hy⟩ := V2.out.at (by omega)
      have cx := hx k h1
      have cy := hy k h2
      have HS := Lib.hid (hq.out.symm.trans (cmpQ_step h1 h2))
      have HT := Lib.hid (less_tri (X.getD k []) (Y.getD k []))
      generalize X.getD k [] = x at *
      generalize Y.getD k [] = y at *
      have g1 : decide (k < X.length) = true := decide_eq_true h1
      have g2 : decide (k < Y.length) = true := decide_eq_true h2
      clear hx hy hq
      cases hl : Op.bytesLess x y
      · rw [hl] at HS HT
        cases he : (x == y)
        · rw [he] at HT
          have HV : Hid (cmpP a b = 1) := Lib.hid (by rw [HS.out, if_neg (by decide), HT.out]; rfl)
          clear HS HT
          go_wp2_with fail
          go_quiet (fail)
          go_wp2_with fail
          go_quiet (fail)
          go_wp2_with fail
          go_ret
          refine ⟨by rw [HV.out]; rfl, ?_⟩
          rw [World.drewN_drewN]
          exact (B2.out.trans (drewn _ _ _)).trans (drewn _ _ _)
        · rw [he] at HT
          have HV : Hid (cmpQ (X.drop (k + 1)) (Y.drop (k + 1)) = cmpP a b) := Lib.hid (by rw [HS.out, if_neg (by decide), HT.out]; rfl)
          clear HS HT
          go_wp2_with fail
          go_quiet (fail)
          go_wp2_with fail
          go_quiet (fail)
          go_wp2_with fail
          go_roundw
          case rel => exact ⟨k + 1, _, by omega, by omega, by go_num, HV, rfl⟩
          case measure => simp [intOf]; omega
      · rw [hl] at HS
        have HV : Hid (cmpP a b = -1) := Lib.hid (by rw [HS.out]; rfl)
        clear HS HT
        go_wp2_with fail
        go_quiet (fail)
        go_wp2_with fail
        go_ret
        refine ⟨by rw [HV.out]; rfl, ?_⟩
        rw [World.drewN_drewN]
        exact B2.out.trans (drewn _ _ _)
    · have HE := Lib.hid (hq.out.symm.trans (cmpQ_end hk1 hk2 (by omega)))
      have hB : Hid (Below w.heap.size w (w2.drewN n)) := Lib.hid (B2.out.trans (drewn _ _ _))
      clear hq
      by_cases h1 : k < X.length
      · have h2 : k = Y.length := by omega
        have HV : Hid (cmpP a b = 1) := Lib.hid (by rw [HE.out, if_neg (by omega), if_pos (by omega)])
        have g1 : decide (k < X.length) = true := decide_eq_true h1
        have g2 : decide (k < Y.length) = false := decide_eq_false (by omega)
        have g3 : decide (X.length < Y.length) = false := decide_eq_false (by omega)
        have g4 : decide (Y.length < X.length) = true := decide_eq_true (by omega)
        clear h12 HE h2
        go_wp2_with fail
        go_ret
        exact ⟨by rw [HV.out]; rfl, hB.out⟩
      · have g1 : decide (k < X.length) = false := decide_eq_false h1
        by_cases h3 : X.length < Y.length
        · have HV : Hid (cmpP a b = -1) := Lib.hid (by rw [HE.out, if_pos h3])
          have g3 : decide (X.length < Y.length) = true := decide_eq_true h3
          clear h12 HE
          go_wp2_with fail
          go_ret
          exact ⟨by rw [HV.out]; rfl, hB.out⟩
        · have HV : Hid (cmpP a b = 0) := Lib.hid (by rw [HE.out, if_neg h3, if_neg (by omega)])
          have g3 : decide (X.length < Y.length) = false := decide_eq_false h3
          have g4 : decide (Y.length < X.length) = false := decide_eq_false (by omega)
          clear h12 HE
          go_wp2_with fail
          go_ret
          exact ⟨by rw [HV.out]; rfl, hB.out⟩
end Go.Proofs.YtplbcncbljcfmaaDoor
