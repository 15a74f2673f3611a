/- The walk of the law LinesThere. -/
import Derived.Test.YtfiogjdjcocbnaaLinP
namespace Go.Proofs.Ytfiogjdjcocbnaa
open Go.RowKit

set_option maxRecDepth 100000 in
set_option maxHeartbeats 4000000 in
theorem diff_long (S T : Nat → Prop) (va vb : Value) (a b : List (List UInt8)) (w : World) (ha : StrsC S w va a) (hb : StrsC T w vb b) (hal : a.length ≤ 4194304) (hbl : b.length ≤ 4194304) (hm : 1048576 < a.length * b.length) :
    Calls Try.prog 27 #[va, vb] w fun e w' => e = .returned (.tuple #[.slice none 0 0, .int .i64 2]) ∧ w = w' := by
  have HP := Lib.hid (pairs_long S T va vb a b w ha hb hal hbl hm)
  obtain ⟨aa, ac, rfl⟩ := ha.shape
  obtain ⟨ba, bc, rfl⟩ := hb.shape
  clear ha hb hm
  go_enter Try.func27, Try.ntmps27
  go_wp2_with fail
  refine HP.out.mono ?_
  rintro e w1 ⟨rfl, rfl⟩
  go_wp2_with fail
  go_ret2
  exact ⟨rfl, rfl⟩
theorem news_back : ∀ (hs : List (HunkN (List UInt8))) (m : Int), newsN (backN m hs) = oldsN hs ∧ (backN m hs).length = hs.length ∧ ∀ n : Nat, (∀ h ∈ hs, h.new.length ≤ n) → ∀ h ∈ backN m hs, h.old.length ≤ n
  | [], _ => ⟨rfl, rfl, fun _ _ h hh => (by cases hh)⟩
  | x :: r, m => by
    obtain ⟨h1, h2, h3⟩ := news_back r (m + (x.new.length - x.old.length))
    refine ⟨by show x.old.length + newsN _ = x.old.length + oldsN r; rw [h1], by show (backN _ r).length + 1 = r.length + 1; rw [h2], fun n hn h hh => ?_⟩
    rcases List.mem_cons.1 hh with rfl | hh
    · exact hn x List.mem_cons_self
    · exact h3 n (fun y hy => hn y (List.mem_cons_of_mem _ hy)) h hh
theorem diff_sizes (a b : List (List UInt8)) : oldsN (diffN a b) ≤ a.length ∧ newsN (diffN a b) ≤ b.length ∧ (diffN a b).length ≤ a.length + 1 ∧ ∀ h ∈ diffN a b, 0 ≤ h.place ∧ h.place ≤ a.length ∧ h.old.length ≤ a.length ∧ h.new.length ≤ b.length := by
  obtain ⟨h1, h2, h3, h4⟩ := hunks_sizes a b _ 0 0 (steps_ok (Nat.zero_le _) (Nat.zero_le _) (pairs_ok a b))
  refine ⟨h1, h2, ?_, h4⟩
  have h5 := (lcs_len a b).1
  rw [← pairsN_len a b 0 0] at h5
  unfold diffN
  rw [List.length_append] at h3
  simp at h3; omega
theorem sum_bounds {l : List (List UInt8)} (h : sumL l ≤ 1048576) : l.length ≤ 1048576 ∧ ∀ x ∈ l, x.length ≤ 4194304 :=
  ⟨Nat.le_trans (sumL_len l) h, fun x hx => by have := sumL_mem l x hx; omega⟩
theorem fit_true {α : Type} [DecidableEq α] {a : List α} {hs : List (HunkN α)} (h : Fits a 0 hs) : fitB a 0 hs = true := (fit_iff a hs 0).2 h
set_option maxRecDepth 100000 in
set_option maxHeartbeats 8000000 in
theorem lthere_law (S T : Nat → Prop) (va vb : Value) (a b : List (List UInt8)) (w : World) (hS : ∀ k, S k → k < w.heap.size) (hT : ∀ k, T k → k < w.heap.size) (ha : StrsC S w va a) (hb : StrsC T w vb b) (hsa : sumL a ≤ 1048576) (hsb : sumL b ≤ 1048576) :
    Calls Try.prog 6 #[va, vb] w (TrueP w) := by
  unfold TrueP
  obtain ⟨hal, hax⟩ := sum_bounds hsa
  obtain ⟨hbl, hbx⟩ := sum_bounds hsb
  obtain ⟨aa, ac, rfl⟩ := ha.shape
  obtain ⟨ba, bc, rfl⟩ := hb.shape
  have HS := Lib.hid hS
  have HT := Lib.hid hT
  have HA := Lib.hid (fun (W : World) (hb : Below w.heap.size w W) => ha.kept (S' := S) (w' := W) (fun k hk => ⟨hk, hb.block k (hS k hk)⟩))
  have HB := Lib.hid (fun (W : World) (hc : Below w.heap.size w W) => hb.kept (S' := T) (w' := W) (fun k hk => ⟨hk, hc.block k (hT k hk)⟩))
  have HAX := Lib.hid hax
  have HBX := Lib.hid hbx
  clear hS hT ha hb hsa hsb hax hbx
  go_enter Try.func6, Try.ntmps6
  go_wp2_with fail
  refine (awake7_any _).mono ?_
  rintro e w1 ⟨rfl, hb1⟩
  have B1 := Lib.hid hb1
  have hs1 := hb1.size
  clear hb1
  by_cases hm : a.length * b.length ≤ 1048576
  · obtain ⟨d1, d2, d3, d4⟩ := diff_sizes a b
    obtain ⟨t1, t2⟩ := diff_there a b
    obtain ⟨u1, u2⟩ := diff_back a b
    have HE : Hid ((diffN a b).length = 0 ↔ a = b) := Lib.hid (by rw [List.length_eq_zero_iff]; exact diff_nil)
    have T1 := Lib.hid (fit_true t1)
    have T2 := Lib.hid t2
    have U1 := Lib.hid (fit_true u1)
    have U2 := Lib.hid u2
    obtain ⟨n1, n2, n3⟩ := news_back (diffN a b) 0
    have N1 := Lib.hid n1
    have N2 := Lib.hid n2
    have N3 := Lib.hid (n3 4194304 (fun h hh => by have := (d4 h hh).2.2.2; omega))
    have D4 := Lib.hid d4
    have HDF := Lib.hid (diff_any S T (.slice aa a.length ac) (.slice ba b.length bc) a b w1 (fun k hk => by have := HS.out k hk; omega) (fun k hk => by have := HT.out k hk; omega) (HA.out _ B1.out) (HB.out _ B1.out) (by omega) (by omega) HAX.out HBX.out hm)
    generalize diffN a b = D at *
    obtain ⟨DB, hDB⟩ : ∃ DB, backN 0 D = DB := ⟨_, rfl⟩
    rw [hDB] at U1 U2 N1 N2 N3
    have HDB := Lib.hid hDB
    clear hm t1 t2 u1 u2 n1 n2 n3 d4 hDB
    go_wp2_with fail
    refine HDF.out.mono ?_
    rintro e w2 ⟨v2, rfl, hh2, hb2⟩
    have H2 := Lib.hid (fun (W : World) (hb : Below w2.heap.size w2 W) => hh2.kept hunk_keeps (S' := fun k => k < w2.heap.size) (w' := W) (fun k hk => ⟨hk.2, hb.block k hk.2⟩))
    have B2 := Lib.hid (B1.out.trans (hb2.mono hs1))
    have hs2 := B2.out.size
    obtain ⟨a2, c2, rfl⟩ := hh2.shape
    clear hh2 hb2 HDF
    go_wp2_with fail
    refine (patch_yes S _ _ _ a D w2 (fun k hk => by have := HS.out k hk; omega) (fun k hk => hk) (HA.out _ B2.out) (H2.out w2 (Below.refl _ _)) (by omega) (by omega) (fun h hh => by have := (D4.out h hh).2.2.1; omega) (by omega) T1.out).mono ?_
    rintro e w3 ⟨v3, rfl, ho3, hb3⟩
    rw [T2.out] at ho3
    have W3 := Lib.hid hb3
    have B3 := Lib.hid (B2.out.trans (hb3.mono hs2))
    have O3 := Lib.hid (ownS_c ho3)
    obtain ⟨a3, c3, rfl⟩ := ownS_slice ho3
    have hs3 := B3.out.size
    clear ho3 hb3
    go_wp2_with fail
    refine (back_any (fun k => k < w2.heap.size) _ D w3 (fun k hk => by have := W3.out.size; omega) (H2.out w3 W3.out) (by omega) (fun h hh => by obtain ⟨q1, q2, q3, q4⟩ := D4.out h hh; exact ⟨q1, by omega, by omega, by omega⟩) (by omega) (by omega)).mono ?_
    rintro e w4 ⟨v4, rfl, hh4, hb4⟩
    rw [HDB.out] at hh4
    have H4 := Lib.hid hh4
    have W4 := Lib.hid (W3.out.trans (hb4.mono W3.out.size))
    have B4 := Lib.hid (B3.out.trans (hb4.mono hs3))
    have O4 := Lib.hid (O3.out.kept (S' := fun k => k < w3.heap.size) (w' := w4) (fun k hk => ⟨hk.2, hb4.block k hk.2⟩))
    obtain ⟨a4, c4, rfl⟩ := hh4.shape
    have hs4 := B4.out.size
    have hs34 := hb4.size
    have hdb : DB.length ≤ 4194304 := by rw [N2.out]; omega
    have hnb : b.length + newsN DB ≤ 8388608 := by rw [N1.out]; omega
    clear hh4 hb4 O3
    go_wp2_with fail
    refine (patch_yes T _ _ _ b DB w4 (fun k hk => by have := HT.out k hk; omega) (fun k (hk : w3.heap.size ≤ k ∧ k < w4.heap.size) => hk.2) (HB.out _ B4.out) H4.out (by omega) hdb N3.out hnb U1.out).mono ?_
    rintro e w5 ⟨v5, rfl, ho5, hb5⟩
    rw [U2.out] at ho5
    have B5 := Lib.hid (B4.out.trans (hb5.mono hs4))
    have O5 := Lib.hid (O4.out.kept (S' := fun k => k < w3.heap.size) (w' := w5) (fun k hk => ⟨hk, hb5.block k (by omega)⟩))
    have P5 := Lib.hid (ownS_c ho5)
    obtain ⟨a5, c5, rfl⟩ := ownS_slice ho5
    clear ho5 hb5 O4
    go_wp2_with fail
    refine (same_yes _ T _ _ b b w5 O5.out (HB.out _ B5.out) (by omega) (by omega) rfl).mono ?_
    rintro e w6 ⟨rfl, n6, rfl⟩
    have B6 := Lib.hid (B5.out.trans (drewn _ w5 n6))
    have P6 := Lib.hid (P5.out.kept (S' := fun k => w4.heap.size ≤ k ∧ k < w5.heap.size) (w' := w5.drewN n6) (fun k hk => ⟨hk, rfl⟩))
    clear P5 O5
    generalize w5.drewN n6 = w6 at *
    go_wp2_with fail
    refine (same_yes _ S _ _ a a w6 P6.out (HA.out _ B6.out) (by omega) (by omega) rfl).mono ?_
    rintro e w7 ⟨rfl, n7, rfl⟩
    have B7 := Lib.hid (B6.out.trans (drewn _ w6 n7))
    clear P6
    generalize w6.drewN n7 = w7 at *
    have HSM := Lib.hid (same_any S T _ _ a b w7 (HA.out _ B7.out) (HB.out _ B7.out) (by omega) (by omega))
    have gq : ((D.length : Int) == 0) = decide (a = b) := by
      rw [Bool.eq_iff_iff, beq_iff_eq, decide_eq_true_eq, ← HE.out]; omega
    generalize decide (a = b) = q at *
    cases q
    all_goals
      go_wp2_with fail
      refine HSM.out.mono ?_
      rintro e w8 ⟨rfl, n8, rfl⟩
      go_wp2_with fail
      go_ret
      exact ⟨rfl, B7.out.trans (drewn _ w7 n8)⟩
  · have HDF := Lib.hid (diff_long S T (.slice aa a.length ac) (.slice ba b.length bc) a b w1 (HA.out _ B1.out) (HB.out _ B1.out) (by omega) (by omega) (by omega))
    obtain ⟨n, hn⟩ : ∃ n, a.length * b.length = n := ⟨_, rfl⟩
    have hmul : (a.length : Int) * (b.length : Int) = (n : Int) := by rw [← hn]; push_cast; rfl
    have hnb : n ≤ 1099511627776 := by rw [← hn]; exact Nat.mul_le_mul hal hbl
    rw [hn] at hm
    have gn : decide ((1048576 : Int) < (n : Int)) = true := decide_eq_true (by omega)
    clear hn
    go_wp2_with fail
    refine HDF.out.mono ?_
    rintro e w2 ⟨rfl, rfl⟩
    go_wp2_with fail
    go_ret
    exact ⟨rfl, B1.out⟩
end Go.Proofs.Ytfiogjdjcocbnaa
