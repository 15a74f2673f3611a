/- The law of merges. -/
import Derived.Test.YtfiogjdjcocbnaaWeavAf
namespace Go.Proofs.Ytfiogjdjcocbnaa
open Go.RowKit
attribute [local go_sem ↓] Go.wp_at_zero Go.wp_at_succ

theorem few_merge (a b c : List (List UInt8)) : (mergeN a b c).length ≤ a.length + b.length + c.length := by
  have e := lens_sum (mergeN a b c)
  obtain ⟨f1, f2, f3⟩ := merge_flat a b c
  rw [f1, f2, f3] at e
  rw [← e]
  have hg := good_all (merge_good a b c)
  clear e f1 f2 f3
  generalize mergeN a b c = M at hg ⊢
  induction M with
  | nil => exact Nat.le_refl _
  | cons p r ih =>
    have i1 := ih (fun q hq => hg q (List.mem_cons_of_mem _ hq))
    have h1 := (hg p List.mem_cons_self).2
    have h2 : 1 ≤ p.base.length + p.ours.length + p.theirs.length := by
      rcases Nat.eq_zero_or_pos (p.base.length + p.ours.length + p.theirs.length) with h | h
      · exact absurd ⟨List.length_eq_zero_iff.1 (by omega), List.length_eq_zero_iff.1 (by omega), List.length_eq_zero_iff.1 (by omega)⟩ h1
      · exact h
    rw [List.map_cons, List.sum_cons, List.length_cons]
    omega
theorem raw_bound {w : World} {S : Nat → Prop} {v : Value} {M : List (PartN (List UInt8))} {a b c : List (List UInt8)} (hM : M = mergeN a b c) (hp : PartsC S w v M) (hS : ∀ k, S k → k < w.heap.size) (hl : a.length ≤ 600 ∧ b.length ≤ 6000 ∧ c.length ≤ 6000) (hax : ∀ x ∈ a, x.length ≤ 4194304) (hbx : ∀ x ∈ b, x.length ≤ 4194304) (hcx : ∀ x ∈ c, x.length ≤ 4194304) (so st : List UInt8) (hso : so.length ≤ 100) (hst : st.length ≤ 100):
    Calls Try.prog 39 #[v, .string ⟨so.toArray⟩, .string ⟨st.toArray⟩] w fun e w' => ∃ v, e = .returned (.tuple #[v, .bool (calmN M)]) ∧ OwnS w' w.heap.size v (textN (headN so) (footN st) M) ∧ Below w.heap.size w w' := by
  obtain ⟨f1, f2, f3⟩ := merge_flat a b c
  have hmem : ∀ p ∈ M, (∀ x ∈ p.base, x ∈ a) ∧ (∀ x ∈ p.ours, x ∈ b) ∧ (∀ x ∈ p.theirs, x ∈ c) := fun p hp => by
    subst hM
    exact ⟨fun x hx => by rw [← f1]; exact List.mem_flatMap.2 ⟨p, hp, hx⟩, fun x hx => by rw [← f2]; exact List.mem_flatMap.2 ⟨p, hp, hx⟩, fun x hx => by rw [← f3]; exact List.mem_flatMap.2 ⟨p, hp, hx⟩⟩
  have hg : ∀ p ∈ M, GoodPart p := by subst hM; exact good_all (merge_good a b c)
  have hlen : partsN M ≤ 5 * (a.length + b.length + c.length) ∧ M.length ≤ a.length + b.length + c.length := by
    have e := lens_sum M
    have e1 : (M.flatMap PartN.base).length = a.length := by rw [hM, f1]
    have e2 : (M.flatMap PartN.ours).length = b.length := by rw [hM, f2]
    have e3 : (M.flatMap PartN.theirs).length = c.length := by rw [hM, f3]
    rw [e1, e2, e3] at e
    rw [← e]
    clear e e1 e2 e3 hp hM hmem f1 f2 f3
    induction M with
    | nil => simp [partsN]
    | cons p r ih =>
      obtain ⟨i1, i2⟩ := ih (fun q hq => hg q (List.mem_cons_of_mem _ hq))
      have h1 := (hg p List.mem_cons_self).2
      have h2 : 1 ≤ p.base.length + p.ours.length + p.theirs.length := by
        rcases Nat.eq_zero_or_pos (p.base.length + p.ours.length + p.theirs.length) with h | h
        · exact absurd ⟨List.length_eq_zero_iff.1 (by omega), List.length_eq_zero_iff.1 (by omega), List.length_eq_zero_iff.1 (by omega)⟩ h1
        · exact h
      rw [partsN_cons, List.map_cons, List.sum_cons, List.length_cons]
      omega
  exact rtext_any S v M so st w hS hp (by omega) (fun p hp => ⟨fun x hx => hax x ((hmem p hp).1 x hx), fun x hx => hbx x ((hmem p hp).2.1 x hx), fun x hx => hcx x ((hmem p hp).2.2 x hx)⟩) (by omega) (by omega) (by omega)
set_option maxRecDepth 100000 in
set_option maxHeartbeats 8000000 in
theorem wmerges_law (S T R : Nat → Prop) (va vb vc : Value) (a b c : List (List UInt8)) (w : World) (hS : ∀ k, S k → k < w.heap.size) (hT : ∀ k, T k → k < w.heap.size) (hR : ∀ k, R k → k < w.heap.size) (ha : StrsC S w va a) (hb : StrsC T w vb b) (hc : StrsC R w vc c) (hsa : sumL a ≤ 1048576) (hsb : sumL b ≤ 1048576) (hsc : sumL c ≤ 1048576) :
    Calls Try.prog 9 #[va, vb, vc] w (TrueP w) := by
  unfold TrueP
  obtain ⟨hal, hax⟩ := sum_bounds hsa
  obtain ⟨hbl, hbx⟩ := sum_bounds hsb
  obtain ⟨hcl, hcx⟩ := sum_bounds hsc
  have HA := Lib.hid (fun (W : World) (h : Below w.heap.size w W) => ha.kept (S' := fun k => k < w.heap.size) (w' := W) (fun k hk => ⟨hS k hk, h.block k (hS k hk)⟩))
  have HB := Lib.hid (fun (W : World) (h : Below w.heap.size w W) => hb.kept (S' := fun k => k < w.heap.size) (w' := W) (fun k hk => ⟨hT k hk, h.block k (hT k hk)⟩))
  have HC := Lib.hid (fun (W : World) (h : Below w.heap.size w W) => hc.kept (S' := fun k => k < w.heap.size) (w' := W) (fun k hk => ⟨hR k hk, h.block k (hR k hk)⟩))
  obtain ⟨aa, ac, rfl⟩ := ha.shape
  obtain ⟨ba, bc, rfl⟩ := hb.shape
  obtain ⟨ca, cc, rfl⟩ := hc.shape
  have HAX := Lib.hid hax
  have HBX := Lib.hid hbx
  have HCX := Lib.hid hcx
  clear ha hb hc hS hT hR hsa hsb hsc hax hbx hcx
  go_enter Try.func9, Try.ntmps9
  go_wp2_with fail
  refine (awake8_any _).mono ?_
  rintro e w1 ⟨rfl, hb1⟩
  have B1 := Lib.hid hb1
  have hs1 := hb1.size
  clear hb1
  go_wp2_with fail
  refine (small_any _ _ _ _ _ _ _ _ _ w1 (by omega) (by omega) (by omega)).mono ?_
  rintro e w1' ⟨rfl, hw1⟩
  rw [hw1]
  clear hw1 w1'
  by_cases hsm : a.length ≤ 200 ∧ b.length ≤ 200 ∧ c.length ≤ 200
  · have e3 : (decide (a.length ≤ 200) && decide (b.length ≤ 200) && decide (c.length ≤ 200)) = true := by simp [hsm.1, hsm.2.1, hsm.2.2]
    rw [e3]
    obtain ⟨h1, h2, h3⟩ := hsm
    clear e3
    go_wp2_with fail
    refine (merge_any _ _ _ _ _ _ a b c w1 (fun k hk => Nat.lt_of_lt_of_le hk hs1) (fun k hk => Nat.lt_of_lt_of_le hk hs1) (fun k hk => Nat.lt_of_lt_of_le hk hs1) (HA.out w1 B1.out) (HB.out w1 B1.out) (HC.out w1 B1.out) (by omega) (by omega) (by omega) HAX.out HBX.out HCX.out (small_mul (by omega) (by omega)) (small_mul (by omega) (by omega))).mono ?_
    intro e w2 g2
    obtain ⟨a2, c2, rfl, hp2, hb2⟩ := g2.open
    have hml := few_merge a b c
    obtain ⟨f1, f2, f3⟩ := merge_flat a b c
    have HBN := Lib.hid (fun p (hp : p ∈ mergeN a b c) => by
      have k1 := flat_mem PartN.base (mergeN a b c) p hp
      have k2 := flat_mem PartN.ours (mergeN a b c) p hp
      have k3 := flat_mem PartN.theirs (mergeN a b c) p hp
      rw [f1] at k1
      rw [f2] at k2
      rw [f3] at k3
      exact And.intro (show p.base.length ≤ 4194304 by omega) (And.intro (show p.ours.length ≤ 4194304 by omega) (show p.theirs.length ≤ 4194304 by omega)))
    have B2 := Lib.hid (B1.out.trans (hb2.mono hs1))
    have hs2 := B2.out.size
    have C3 := Lib.hid (rmerge_any _ _ _ _ _ _ a b c w2 (fun k hk => Nat.lt_of_lt_of_le hk hs2) (fun k hk => Nat.lt_of_lt_of_le hk hs2) (fun k hk => Nat.lt_of_lt_of_le hk hs2) (HA.out w2 B2.out) (HB.out w2 B2.out) (HC.out w2 B2.out) (by omega) (by omega) (by omega) (small_mul (by omega) (by omega)) (small_mul (by omega) (by omega)))
    obtain ⟨M, hM⟩ : ∃ M, mergeN a b c = M := ⟨_, rfl⟩
    have HM := Lib.hid hM
    rw [hM] at hp2 hml HBN C3 ⊢
    have P2 := Lib.hid (hp2.kept part_keeps (S' := fun k => k < w2.heap.size) (w' := w2) (fun k hk => ⟨hk.2, rfl⟩))
    have hMl : M.length ≤ 600 := by omega
    clear g2 hp2 hb2 hM f1 f2 f3 hml HA HB HC
    go_wp2_with fail
    refine C3.out.mono ?_
    rintro e w3 ⟨v3, rfl, hp3, hb3⟩
    obtain ⟨a3, c3, rfl⟩ := hp3.shape
    have P3 := Lib.hid hp3
    have P23 := Lib.hid (P2.out.kept part_keeps (S' := fun k => k < w2.heap.size) (w' := w3) (fun k hk => ⟨hk, hb3.block k hk⟩))
    have B3 := Lib.hid (B2.out.trans (hb3.mono hs2))
    have hs23 := hb3.size
    have hs3 := B3.out.size
    clear hp3 hb3 C3 P2
    go_wp2_with fail
    refine (aw_bound HM.out.symm P23.out (fun k hk => Nat.lt_of_lt_of_le hk hs23) (by omega) HAX.out HBX.out HCX.out [109, 105, 110, 101] [121, 111, 117, 114, 115] (by decide) (by decide)).mono ?_
    rintro e w4 ⟨v4, rfl, ho4, hb4⟩
    have P34 := Lib.hid (P3.out.kept part_keeps (S' := fun k => k < w3.heap.size) (w' := w4) (fun k hk => ⟨hk, hb4.block k hk⟩))
    have P24 := Lib.hid (P23.out.kept part_keeps (S' := fun k => k < w2.heap.size) (w' := w4) (fun k hk => ⟨hk, hb4.block k (Nat.lt_of_lt_of_le hk hs23)⟩))
    have B4 := Lib.hid (B3.out.trans (hb4.mono hs3))
    have hs34 := hb4.size
    have hs4 := B4.out.size
    have HLN := Lib.hid (merge_len (headN [109, 105, 110, 101]) (footN [121, 111, 117, 114, 115]) a b c).1
    rw [HM.out] at HLN
    obtain ⟨L, hL⟩ : ∃ L, textN (headN [109, 105, 110, 101]) (footN [121, 111, 117, 114, 115]) M = L := ⟨_, rfl⟩
    rw [hL] at ho4 HLN
    have hLl : L.length ≤ 3000 := by have := HLN.out; omega
    have HL := Lib.hid hL
    have O4 := Lib.hid (ownS_c ho4)
    obtain ⟨a4, c4, rfl⟩ := ownS_slice ho4
    obtain ⟨cm, hcm⟩ : ∃ x, calmN M = x := ⟨_, rfl⟩
    have HCM := Lib.hid hcm
    rw [hcm]
    clear ho4 hb4 P3 P23 hL HLN hcm
    go_wp2_with fail
    refine (raw_bound HM.out.symm P34.out (fun k hk => Nat.lt_of_lt_of_le hk hs34) (by omega) HAX.out HBX.out HCX.out [109, 105, 110, 101] [121, 111, 117, 114, 115] (by decide) (by decide)).mono ?_
    rintro e w5 ⟨v5, rfl, ho5, hb5⟩
    rw [HL.out] at ho5
    rw [HCM.out]
    have P35 := Lib.hid (P34.out.kept part_keeps (S' := fun k => k < w3.heap.size) (w' := w5) (fun k hk => ⟨hk, hb5.block k (Nat.lt_of_lt_of_le hk hs34)⟩))
    have P25 := Lib.hid (P24.out.kept part_keeps (S' := fun k => k < w2.heap.size) (w' := w5) (fun k hk => ⟨hk, hb5.block k (by omega)⟩))
    have O45 := Lib.hid (O4.out.kept (S' := fun k => k < w4.heap.size) (w' := w5) (fun k hk => ⟨hk.2, hb5.block k hk.2⟩))
    have B5 := Lib.hid (B4.out.trans (hb5.mono hs4))
    have hs45 := hb5.size
    have hs5 := B5.out.size
    have O5 := Lib.hid (ownS_c ho5)
    obtain ⟨a5, c5, rfl⟩ := ownS_slice ho5
    clear ho5 hb5 P34 P24 O4 HM HL HCM
    go_wp2_with fail
    refine (wplain_any _ _ M w5 (fun k hk => show k < w5.heap.size by omega) P25.out (by omega)).mono ?_
    rintro e w6 ⟨v6, rfl, hp6, hb6⟩
    obtain ⟨a6, c6, rfl⟩ := hp6.shape
    have P6 := Lib.hid hp6
    have P36 := Lib.hid (P35.out.kept part_keeps (S' := fun k => k < w3.heap.size) (w' := w6) (fun k hk => ⟨hk, hb6.block k (by omega)⟩))
    have O46 := Lib.hid (O45.out.kept (S' := fun k => k < w4.heap.size) (w' := w6) (fun k hk => ⟨hk, hb6.block k (by omega)⟩))
    have O56 := Lib.hid (O5.out.kept (S' := fun k => k < w5.heap.size) (w' := w6) (fun k hk => ⟨hk.2, hb6.block k hk.2⟩))
    have B6 := Lib.hid (B5.out.trans (hb6.mono hs5))
    clear hp6 hb6 P35 P25 O45 O5
    go_wp2_with fail
    refine (alike_yes _ _ _ _ M w6 P6.out P36.out (by omega) HBN.out).mono ?_
    rintro e w7 ⟨rfl, n7, rfl⟩
    have O47 := Lib.hid (O46.out.kept (S' := fun k => k < w4.heap.size) (w' := w6.drewN n7) (fun k hk => ⟨hk, rfl⟩))
    have O57 := Lib.hid (O56.out.kept (S' := fun k => k < w5.heap.size) (w' := w6.drewN n7) (fun k hk => ⟨hk, rfl⟩))
    have B7 := Lib.hid (B6.out.trans (drewn _ w6 n7))
    clear O46 O56 P6 P36 B6
    generalize w6.drewN n7 = w7 at *
    go_wp2_with fail
    refine (same_yes _ _ _ _ L L w7 O47.out O57.out (by omega) (by omega) rfl).mono ?_
    rintro e w8 ⟨rfl, n8, rfl⟩
    have hcc : (cm == cm) = true := by simp
    go_wp2_with fail
    go_ret
    exact ⟨rfl, B7.out.trans (drewn _ w7 n8)⟩
  · have e3 : (decide (a.length ≤ 200) && decide (b.length ≤ 200) && decide (c.length ≤ 200)) = false := by
      rw [Bool.and_eq_false_iff, Bool.and_eq_false_iff, decide_eq_false_iff_not, decide_eq_false_iff_not, decide_eq_false_iff_not]; omega
    rw [e3]
    go_wp2_with fail
    go_ret
    exact ⟨rfl, B1.out⟩
end Go.Proofs.Ytfiogjdjcocbnaa
