/- The law of both ways. -/
import Derived.Test.YtfiogjdjcocbnaaWeavY
namespace Go.Proofs.Ytfiogjdjcocbnaa
open Go.RowKit
attribute [local go_sem ↓] Go.wp_at_zero Go.wp_at_succ

set_option maxRecDepth 100000 in
set_option maxHeartbeats 8000000 in
theorem wswap_law (S T R : Nat → Prop) (va vb vc : Value) (a b c : List (List UInt8)) (w : World) (hS : ∀ k, S k → k < w.heap.size) (hT : ∀ k, T k → k < w.heap.size) (hR : ∀ k, R k → k < w.heap.size) (ha : StrsC S w va a) (hb : StrsC T w vb b) (hc : StrsC R w vc c) (hsa : sumL a ≤ 1048576) (hsb : sumL b ≤ 1048576) (hsc : sumL c ≤ 1048576) :
    Calls Try.prog 12 #[va, vb, vc] w (TrueP w) := by
  unfold TrueP
  obtain ⟨hal, hax⟩ := sum_bounds hsa
  obtain ⟨hbl, hbx⟩ := sum_bounds hsb
  obtain ⟨hcl, hcx⟩ := sum_bounds hsc
  have HA := Lib.hid (fun (W : World) (h : Below w.heap.size w W) => ha.kept (S' := fun k => k < w.heap.size) (w' := W) (fun k hk => ⟨hS k hk, h.block k (hS k hk)⟩))
  have HB := Lib.hid (fun (W : World) (h : Below w.heap.size w W) => hb.kept (S' := fun k => k < w.heap.size) (w' := W) (fun k hk => ⟨hT k hk, h.block k (hT k hk)⟩))
  have HC := Lib.hid (fun (W : World) (h : Below w.heap.size w W) => hc.kept (S' := fun k => k < w.heap.size) (w' := W) (fun k hk => ⟨hR k hk, h.block k (hR k hk)⟩))
  obtain ⟨aa, ac, rfl⟩ := ha.shape
  obtain ⟨ba, bc, rfl⟩ := hb.shape
  obtain ⟨ca, cc, rfl⟩ := hc.shape
  have HAX := Lib.hid hax
  have HBX := Lib.hid hbx
  have HCX := Lib.hid hcx
  clear ha hb hc hS hT hR hsa hsb hsc hax hbx hcx
  go_enter Try.func12, Try.ntmps12
  go_wp2_with fail
  refine (awake8_any _).mono ?_
  rintro e w1 ⟨rfl, hb1⟩
  have B1 := Lib.hid hb1
  have hs1 := hb1.size
  clear hb1
  go_wp2_with fail
  refine (small_any _ _ _ _ _ _ _ _ _ w1 (by omega) (by omega) (by omega)).mono ?_
  rintro e w1' ⟨rfl, hw1⟩
  rw [hw1]
  clear hw1 w1'
  by_cases hsm : a.length ≤ 200 ∧ b.length ≤ 200 ∧ c.length ≤ 200
  · have e3 : (decide (a.length ≤ 200) && decide (b.length ≤ 200) && decide (c.length ≤ 200)) = true := by simp [hsm.1, hsm.2.1, hsm.2.2]
    rw [e3]
    obtain ⟨h1, h2, h3⟩ := hsm
    clear e3
    go_wp2_with fail
    refine (merge_any _ _ _ _ _ _ a b c w1 (fun k hk => Nat.lt_of_lt_of_le hk hs1) (fun k hk => Nat.lt_of_lt_of_le hk hs1) (fun k hk => Nat.lt_of_lt_of_le hk hs1) (HA.out w1 B1.out) (HB.out w1 B1.out) (HC.out w1 B1.out) (by omega) (by omega) (by omega) HAX.out HBX.out HCX.out (small_mul (by omega) (by omega)) (small_mul (by omega) (by omega))).mono ?_
    intro e w2 g2
    obtain ⟨a2, c2, rfl, hp2, hb2⟩ := g2.open
    have B2 := Lib.hid (B1.out.trans (hb2.mono hs1))
    have hs2 := B2.out.size
    have P2 := Lib.hid (hp2.kept part_keeps (S' := fun k => k < w2.heap.size) (w' := w2) (fun k hk => ⟨hk.2, rfl⟩))
    clear g2 hp2 hb2
    have hml := merge_few a b c
    have hml2 := merge_few a c b
    have HBN : Hid (∀ p ∈ mergeN a b c, p.base.length ≤ 4194304 ∧ p.ours.length ≤ 4194304 ∧ p.theirs.length ≤ 4194304) := Lib.hid (fun p hp => by
      obtain ⟨f1, f2, f3⟩ := merge_flat a b c
      have k1 := flat_mem PartN.base (mergeN a b c) p hp
      have k2 := flat_mem PartN.ours (mergeN a b c) p hp
      have k3 := flat_mem PartN.theirs (mergeN a b c) p hp
      rw [f1] at k1
      rw [f2] at k2
      rw [f3] at k3
      omega)
    have HSW := Lib.hid (merge_swap a b c)
    have HSS : Hid (((mergeN a b c).map swapN).map swapN = mergeN a b c) := Lib.hid (by rw [List.map_map]; exact (List.map_congr_left (fun p _ => swap_swap p)).trans (List.map_id' _))
    have HBN2 : Hid (∀ p ∈ (mergeN a b c).map swapN, p.base.length ≤ 4194304 ∧ p.ours.length ≤ 4194304 ∧ p.theirs.length ≤ 4194304) := Lib.hid (fun p hp => by
      obtain ⟨q, hq, rfl⟩ := List.mem_map.1 hp
      obtain ⟨z1, z2, z3⟩ := HBN.out q hq
      exact ⟨z1, z3, z2⟩)
    have HTX := Lib.hid (fun h => swap_text (head := headN [108]) (foot := footN [114]) (head' := headN [114]) (foot' := footN [108]) (good_all (merge_good a b c)) h)
    have HCA := Lib.hid (swap_calm (mergeN a b c))
    have hll := (merge_len (headN [108]) (footN [114]) a b c).1
    have hlm : ((mergeN a b c).map swapN).length = (mergeN a b c).length := by simp
    obtain ⟨M, hM⟩ : ∃ M, mergeN a b c = M := ⟨_, rfl⟩
    have HM := Lib.hid hM
    rw [hM] at P2 hml HBN HSW HSS HBN2 HTX HCA hll hlm ⊢
    clear hM
    go_wp2_with fail
    refine (merge_any _ _ _ _ _ _ a c b w2 (fun k hk => Nat.lt_of_lt_of_le hk hs2) (fun k hk => Nat.lt_of_lt_of_le hk hs2) (fun k hk => Nat.lt_of_lt_of_le hk hs2) (HA.out w2 B2.out) (HC.out w2 B2.out) (HB.out w2 B2.out) (by omega) (by omega) (by omega) HAX.out HCX.out HBX.out (small_mul (by omega) (by omega)) (small_mul (by omega) (by omega))).mono ?_
    intro e w3 g3
    obtain ⟨a3, c3, rfl, hp3, hb3⟩ := g3.open
    have HM2 : Hid (M.map swapN = mergeN a c b) := Lib.hid HSW.out.symm
    rw [HSW.out] at hp3 hml2 ⊢
    obtain ⟨N, hN⟩ : ∃ N, M.map swapN = N := ⟨_, rfl⟩
    rw [hN] at hp3 hml2 HM2 HSS HBN2 HTX HCA hlm ⊢
    have HN := Lib.hid hN
    have hNl : N.length ≤ 4194304 := by omega
    have hMl : M.length ≤ 4194304 := by omega
    clear hlm hml hml2
    have hs23 := hb3.size
    have B3 := Lib.hid (B2.out.trans (hb3.mono hs2))
    have hs3 := B3.out.size
    have HP := Lib.hid (fun (W : World) (h : Below w3.heap.size w3 W) => P2.out.kept part_keeps (S' := fun k => k < w2.heap.size) (w' := W) (fun k hk => ⟨hk, (h.block k (by omega)).trans (hb3.block k hk)⟩))
    have HQ := Lib.hid (fun (W : World) (h : Below w3.heap.size w3 W) => hp3.kept part_keeps (S' := fun k => k < w3.heap.size) (w' := W) (fun k hk => ⟨hk.2, h.block k hk.2⟩))
    have HR3 := Lib.hid (Below.refl w3.heap.size w3)
    clear g3 hp3 hb3 P2 hN
    go_wp2_with fail
    refine (swap_any _ _ M w3 (fun k hk => by omega) (HP.out w3 HR3.out) (by omega) HBN.out).mono ?_
    rintro e w4 ⟨v4, rfl, hp4, hb4⟩
    rw [HN.out] at hp4
    have P4 := Lib.hid hp4
    have R4 := Lib.hid hb4
    have hs4 := hb4.size
    obtain ⟨a4, c4, rfl⟩ := hp4.shape
    clear hp4 hb4
    go_wp2_with fail
    refine (wplain_any _ _ N w4 (fun k hk => hk) P4.out (by omega)).mono ?_
    rintro e w5 ⟨v5, rfl, hp5, hb5⟩
    have P5 := Lib.hid hp5
    have R5 := Lib.hid (R4.out.trans (hb5.mono hs4))
    have hs5 := R5.out.size
    obtain ⟨a5, c5, rfl⟩ := hp5.shape
    clear hp5 hb5 P4
    go_wp2_with fail
    refine (wplain_any _ _ N w5 (fun k hk => by omega) (HQ.out w5 R5.out) (by omega)).mono ?_
    rintro e w6 ⟨v6, rfl, hp6, hb6⟩
    have P6 := Lib.hid hp6
    have P56 := Lib.hid (P5.out.kept part_keeps (S' := fun k => k < w5.heap.size) (w' := w6) (fun k hk => ⟨hk, hb6.block k hk⟩))
    have R6 := Lib.hid (R5.out.trans (hb6.mono hs5))
    obtain ⟨a6, c6, rfl⟩ := hp6.shape
    clear hp6 hb6 P5
    go_wp2_with fail
    refine (alike_yes _ _ _ _ N w6 P56.out P6.out (by omega) HBN2.out).mono ?_
    rintro e w7 ⟨rfl, n7, rfl⟩
    have R7 := Lib.hid (R6.out.trans (drewn _ w6 n7))
    clear P56 P6
    generalize w6.drewN n7 = w7 at *
    have hs7 := R7.out.size
    go_wp2_with fail
    refine (swap_any _ _ M w7 (fun k hk => by omega) (HP.out w7 R7.out) (by omega) HBN.out).mono ?_
    rintro e w8 ⟨v8, rfl, hp8, hb8⟩
    rw [HN.out] at hp8
    have P8 := Lib.hid hp8
    have R8 := Lib.hid (R7.out.trans (hb8.mono hs7))
    have hs8 := R8.out.size
    obtain ⟨a8, c8, rfl⟩ := hp8.shape
    clear hp8 hb8
    go_wp2_with fail
    refine (swap_any _ _ N w8 (fun k hk => hk) P8.out (by omega) HBN2.out).mono ?_
    rintro e w9 ⟨v9, rfl, hp9, hb9⟩
    rw [HSS.out] at hp9
    have P9 := Lib.hid hp9
    have R9 := Lib.hid (R8.out.trans (hb9.mono hs8))
    have hs9 := R9.out.size
    obtain ⟨a9, c9, rfl⟩ := hp9.shape
    clear hp9 hb9 P8
    go_wp2_with fail
    refine (wplain_any _ _ M w9 (fun k hk => hk) P9.out (by omega)).mono ?_
    rintro e x1 ⟨y1, rfl, hpx, hbx⟩
    have X1 := Lib.hid hpx
    have RX1 := Lib.hid (R9.out.trans (hbx.mono hs9))
    have hsx1 := RX1.out.size
    obtain ⟨ax1, cx1, rfl⟩ := hpx.shape
    clear hpx hbx P9
    go_wp2_with fail
    refine (wplain_any _ _ M x1 (fun k hk => by omega) (HP.out x1 RX1.out) (by omega)).mono ?_
    rintro e x2 ⟨y2, rfl, hpx, hbx⟩
    have X2 := Lib.hid hpx
    have X12 := Lib.hid (X1.out.kept part_keeps (S' := fun k => k < x1.heap.size) (w' := x2) (fun k hk => ⟨hk, hbx.block k hk⟩))
    have RX2 := Lib.hid (RX1.out.trans (hbx.mono hsx1))
    obtain ⟨ax2, cx2, rfl⟩ := hpx.shape
    clear hpx hbx X1
    go_wp2_with fail
    refine (alike_yes _ _ _ _ M x2 X12.out X2.out (by omega) HBN.out).mono ?_
    rintro e x3 ⟨rfl, nx3, rfl⟩
    have RX3 := Lib.hid (RX2.out.trans (drewn _ x2 nx3))
    clear X12 X2
    generalize x2.drewN nx3 = x3 at *
    have hsx3 := RX3.out.size
    go_wp2_with fail
    refine (aw_bound HM.out.symm (HP.out x3 RX3.out) (fun k hk => by omega) (by omega) HAX.out HBX.out HCX.out [108] [114] (by decide) (by decide)).mono ?_
    rintro e x4 ⟨y4, rfl, ho4, hb4⟩
    have O4 := Lib.hid (ownS_c ho4)
    have RX4 := Lib.hid (RX3.out.trans (hb4.mono hsx3))
    have hsx4 := RX4.out.size
    obtain ⟨ax4, cx4, rfl⟩ := ownS_slice ho4
    clear ho4 hb4
    go_wp2_with fail
    refine (aw_bound HM2.out (HQ.out x4 RX4.out) (fun k hk => by omega) (by omega) HAX.out HCX.out HBX.out [114] [108] (by decide) (by decide)).mono ?_
    rintro e x5 ⟨y5, rfl, ho5, hb5⟩
    have O5 := Lib.hid (ownS_c ho5)
    have O45 := Lib.hid (O4.out.kept (S' := fun k => k < x4.heap.size) (w' := x5) (fun k hk => ⟨hk.2, hb5.block k hk.2⟩))
    have RX5 := Lib.hid (RX4.out.trans (hb5.mono hsx4))
    obtain ⟨ax5, cx5, rfl⟩ := ownS_slice ho5
    clear ho5 hb5 O4
    have BF := Lib.hid (B3.out.trans (RX5.out.mono hs3))
    rw [HCA.out]
    cases hcm : calmN M
    · have hcc : (false == false) = true := rfl
      go_wp2_with fail
      go_ret
      exact ⟨rfl, BF.out⟩
    · have hTE := HTX.out hcm
      rw [hTE] at O5 ⊢
      obtain ⟨L, hL⟩ : ∃ L, textN (headN [108]) (footN [114]) M = L := ⟨_, rfl⟩
      rw [hL] at O5 O45 hll ⊢
      clear hTE hL hcm
      go_wp2_with fail
      refine (same_yes _ _ _ _ L L x5 O45.out O5.out (by omega) (by omega) rfl).mono ?_
      rintro e x6 ⟨rfl, n6, rfl⟩
      go_wp2_with fail
      go_ret
      exact ⟨rfl, BF.out.trans (drewn _ x5 n6)⟩
  · have e3 : (decide (a.length ≤ 200) && decide (b.length ≤ 200) && decide (c.length ≤ 200)) = false := by
      rw [Bool.and_eq_false_iff, Bool.and_eq_false_iff, decide_eq_false_iff_not, decide_eq_false_iff_not, decide_eq_false_iff_not]; omega
    rw [e3]
    go_wp2_with fail
    go_ret
    exact ⟨rfl, B1.out⟩
end Go.Proofs.Ytfiogjdjcocbnaa
