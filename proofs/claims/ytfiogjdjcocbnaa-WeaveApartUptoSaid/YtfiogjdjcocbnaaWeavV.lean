/- The law of merging again. -/
import Derived.Test.YtfiogjdjcocbnaaWeavU
namespace Go.Proofs.Ytfiogjdjcocbnaa
open Go.RowKit
attribute [local go_sem ↓] Go.wp_at_zero Go.wp_at_succ

theorem calm_mem {head foot : List UInt8} {a b c : List (List UInt8)} (h : calmN (mergeN a b c) = true) : ∀ x ∈ textN head foot (mergeN a b c), x ∈ b ∨ x ∈ c := by
  obtain ⟨f1, f2, f3⟩ := merge_flat a b c
  intro x hx
  unfold textN at hx
  obtain ⟨p, hp, hx⟩ := List.mem_flatMap.1 hx
  have hc : calm1 p = true := by unfold calmN at h; exact List.all_eq_true.1 h p hp
  unfold calm1 at hc
  rw [decide_eq_true_eq] at hc
  unfold text1 at hx
  by_cases h1 : p.kind = 0 ∨ p.kind = 1 ∨ p.kind = 3
  · rw [if_pos h1] at hx
    left; rw [← f2]; exact List.mem_flatMap.2 ⟨p, hp, hx⟩
  · rw [if_neg h1, if_pos (by omega)] at hx
    right; rw [← f3]; exact List.mem_flatMap.2 ⟨p, hp, hx⟩
set_option maxRecDepth 100000 in
set_option maxHeartbeats 8000000 in
theorem wagain_law (S T R : Nat → Prop) (va vb vc : Value) (a b c : List (List UInt8)) (w : World) (hS : ∀ k, S k → k < w.heap.size) (hT : ∀ k, T k → k < w.heap.size) (hR : ∀ k, R k → k < w.heap.size) (ha : StrsC S w va a) (hb : StrsC T w vb b) (hc : StrsC R w vc c) (hsa : sumL a ≤ 1048576) (hsb : sumL b ≤ 1048576) (hsc : sumL c ≤ 1048576) :
    Calls Try.prog 16 #[va, vb, vc] w (TrueP w) := by
  unfold TrueP
  obtain ⟨hal, hax⟩ := sum_bounds hsa
  obtain ⟨hbl, hbx⟩ := sum_bounds hsb
  obtain ⟨hcl, hcx⟩ := sum_bounds hsc
  have HA := Lib.hid (fun (W : World) (h : Below w.heap.size w W) => ha.kept (S' := fun k => k < w.heap.size) (w' := W) (fun k hk => ⟨hS k hk, h.block k (hS k hk)⟩))
  have HB := Lib.hid (fun (W : World) (h : Below w.heap.size w W) => hb.kept (S' := fun k => k < w.heap.size) (w' := W) (fun k hk => ⟨hT k hk, h.block k (hT k hk)⟩))
  have HC := Lib.hid (fun (W : World) (h : Below w.heap.size w W) => hc.kept (S' := fun k => k < w.heap.size) (w' := W) (fun k hk => ⟨hR k hk, h.block k (hR k hk)⟩))
  obtain ⟨aa, ac, rfl⟩ := ha.shape
  obtain ⟨ba, bc, rfl⟩ := hb.shape
  obtain ⟨ca, cc, rfl⟩ := hc.shape
  have HAX := Lib.hid hax
  have HBX := Lib.hid hbx
  have HCX := Lib.hid hcx
  clear ha hb hc hS hT hR hsa hsb hsc hax hbx hcx
  go_enter Try.func16, Try.ntmps16
  go_wp2_with fail
  refine (awake8_any _).mono ?_
  rintro e w1 ⟨rfl, hb1⟩
  have B1 := Lib.hid hb1
  have hs1 := hb1.size
  clear hb1
  go_wp2_with fail
  refine (small_any _ _ _ _ _ _ _ _ _ w1 (by omega) (by omega) (by omega)).mono ?_
  rintro e w1' ⟨rfl, hw1⟩
  rw [hw1]
  clear hw1 w1'
  by_cases hsm : a.length ≤ 200 ∧ b.length ≤ 200 ∧ c.length ≤ 200
  · have e3 : (decide (a.length ≤ 200) && decide (b.length ≤ 200) && decide (c.length ≤ 200)) = true := by simp [hsm.1, hsm.2.1, hsm.2.2]
    rw [e3]
    obtain ⟨h1, h2, h3⟩ := hsm
    clear e3
    go_wp2_with fail
    refine (merge_any _ _ _ _ _ _ a b c w1 (fun k hk => Nat.lt_of_lt_of_le hk hs1) (fun k hk => Nat.lt_of_lt_of_le hk hs1) (fun k hk => Nat.lt_of_lt_of_le hk hs1) (HA.out w1 B1.out) (HB.out w1 B1.out) (HC.out w1 B1.out) (by omega) (by omega) (by omega) HAX.out HBX.out HCX.out (small_mul (by omega) (by omega)) (small_mul (by omega) (by omega))).mono ?_
    intro e w2 g2
    obtain ⟨a2, c2, rfl, hp2, hb2⟩ := g2.open
    have hln := (merge_len (headN [108]) (footN [114]) a b c).2
    have hmm := calm_mem (head := headN [108]) (foot := footN [114]) (a := a) (b := b) (c := c)
    obtain ⟨M, hM⟩ : ∃ M, mergeN a b c = M := ⟨_, rfl⟩
    have HM := Lib.hid hM
    rw [hM] at hp2 hln hmm ⊢
    have P2 := Lib.hid hp2
    have B2 := Lib.hid (B1.out.trans (hb2.mono hs1))
    have hs2 := B2.out.size
    clear g2 hp2 hb2 hM
    go_wp2_with fail
    refine (aw_bound HM.out.symm P2.out (fun k hk => hk.2) (by omega) HAX.out HBX.out HCX.out [108] [114] (by decide) (by decide)).mono ?_
    rintro e w3 ⟨v3, rfl, ho3, hb3⟩
    obtain ⟨L, hL⟩ : ∃ L, textN (headN [108]) (footN [114]) M = L := ⟨_, rfl⟩
    rw [hL] at ho3 hln hmm
    have O3 := Lib.hid (ownS_c ho3)
    obtain ⟨a3, c3, rfl⟩ := ownS_slice ho3
    have B3 := Lib.hid (B2.out.trans (hb3.mono hs2))
    have hs3 := B3.out.size
    clear ho3 hb3 P2 hL
    cases hcm : calmN M
    · go_wp2_with fail
      go_ret
      exact ⟨rfl, B3.out⟩
    · have hLl := hln hcm
      have HLX : Hid (∀ x ∈ L, x.length ≤ 4194304) := Lib.hid (fun x hx => (hmm hcm x hx).elim (HBX.out x) (HCX.out x))
      clear hln hmm HM hcm
      have HROW := Lib.hid (new_five w3 #[.slice ba b.length bc, .slice ca c.length cc] 24)
      have BR : Hid (Below w.heap.size w (w3.alloc (.cells #[.slice ba b.length bc, .slice ca c.length cc] 24))) := Lib.hid (B3.out.alloc hs3 _)
      have hrl : w3.heap.size < (w3.alloc (.cells #[.slice ba b.length bc, .slice ca c.length cc] 24)).heap.size := by simp
      have LR : Hid (StrsC (fun k => k < w3.heap.size) (w3.alloc (.cells #[.slice ba b.length bc, .slice ca c.length cc] 24)) (.slice a3 L.length c3) L) := Lib.hid (O3.out.kept (fun k hk => ⟨hk.2, Below.heap_alloc _ _ _ hk.2⟩))
      have HCASE : Hid (∀ (k : Nat), k < 2 → ∃ (x : List (List UInt8)) (ax : Option Addr) (cx : Nat), x.length ≤ 200 ∧ (∀ W : World, W.heap[w3.heap.size]? = (w3.alloc (.cells #[.slice ba b.length bc, .slice ca c.length cc] 24)).heap[w3.heap.size]? → W.cell? ⟨w3.heap.size, k, none⟩ = some (.slice ax x.length cx)) ∧
          (∀ W : World, Below w.heap.size w W → StrsC (fun k => k < w.heap.size) W (.slice ax x.length cx) x) ∧ (∀ s ∈ x, s.length ≤ 4194304)) := Lib.hid (fun k hk => by
        have hc : k = 0 ∨ k = 1 := by omega
        rcases hc with rfl | rfl
        · exact ⟨b, ba, bc, h2, fun W hW => by
            have h := hW.trans HROW.out
            rw [cell_of_row _ _ _ _ _ _ h]; rfl, HB.out, HBX.out⟩
        · exact ⟨c, ca, cc, h3, fun W hW => by
            have h := hW.trans HROW.out
            rw [cell_of_row _ _ _ _ _ _ h]; rfl, HC.out, HCX.out⟩)
      go_upto_region 10 with fail
      clear HROW HAX HBX HCX HA HB HC B1 B2 B3 O3
      generalize w3.alloc (.cells #[.slice ba b.length bc, .slice ca c.length cc] 24) = wt at *
      obtain ⟨tb, htb⟩ : ∃ tb, w3.heap.size = tb := ⟨_, rfl⟩
      rw [htb] at HCASE hrl LR ⊢
      clear htb hs1 hs2 hs3
      go_loopw [52] (fun n wr => ∃ (k : Nat), k ≤ 2 ∧ n = .int .i64 k ∧ Hid (Below wt.heap.size wt wr)) (fun n _ => 2 - (intOf n).toNat)
      case atStart => exact ⟨0, by omega, rfl, Lib.hid (Below.refl _ _)⟩
      case round =>
        obtain ⟨k, hk, rfl, hW⟩ := hrel
        by_cases hlt : k < 2
        · obtain ⟨x, ax, cx, hxl, hcell, hstr, hxx⟩ := HCASE.out k hlt
          have c0 := hcell wr (hW.out.block tb hrl)
          have hwt := BR.out.size
          have BW := Lib.hid (BR.out.trans (hW.out.mono hwt))
          have HSTR := Lib.hid hstr
          have HXX := Lib.hid hxx
          have HLR := Lib.hid (fun (W : World) (h : Below wt.heap.size wt W) => LR.out.kept (S' := fun k => k < tb) (w' := W) (fun k hk => ⟨hk, h.block k (Nat.lt_trans hk hrl)⟩))
          have hws := hW.out.size
          clear hcell hstr hxx
          go_wp2_with fail
          refine (merge_any _ _ _ _ _ _ x L x wr (fun k hk => by have := BW.out.size; omega) (fun k hk => by omega) (fun k hk => by have := BW.out.size; omega) (HSTR.out wr BW.out) (HLR.out wr hW.out) (HSTR.out wr BW.out) (by omega) (by omega) (by omega) HXX.out HLX.out HXX.out (small_mul (by omega) (by omega)) (small_mul (by omega) (by omega))).mono ?_
          intro e w5 h5
          obtain ⟨a5, c5, rfl, hp5, hb5⟩ := h5.open
          have HT1 := Lib.hid (side_ours (headN [108]) (footN [114]) x L)
          obtain ⟨M1, hM1⟩ : ∃ M, mergeN x L x = M := ⟨_, rfl⟩
          have HM1 := Lib.hid hM1
          rw [hM1] at hp5 HT1 ⊢
          have P5 := Lib.hid hp5
          have B5 := Lib.hid (hW.out.trans (hb5.mono hws))
          have hs5 := B5.out.size
          clear h5 hp5 hb5 hM1 c0
          go_wp2_with fail
          refine (aw_bound HM1.out.symm P5.out (fun k hk => hk.2) (by omega) HXX.out HLX.out HXX.out [108] [114] (by decide) (by decide)).mono ?_
          rintro e w6 ⟨v6, rfl, ho6, hb6⟩
          rw [HT1.out.1] at ho6
          rw [HT1.out.2]
          have B6 := Lib.hid (B5.out.trans (hb6.mono hs5))
          have O6 := Lib.hid (ownS_c ho6)
          obtain ⟨a6, c6, rfl⟩ := ownS_slice ho6
          have hs6 := B6.out.size
          have BW6 := Lib.hid (BR.out.trans (B6.out.mono hwt))
          clear ho6 hb6 P5 HT1 HM1
          go_wp2_with fail
          refine (merge_any _ _ _ _ _ _ x x L w6 (fun k hk => by have := BW6.out.size; omega) (fun k hk => by have := BW6.out.size; omega) (fun k hk => by omega) (HSTR.out w6 BW6.out) (HSTR.out w6 BW6.out) (HLR.out w6 B6.out) (by omega) (by omega) (by omega) HXX.out HXX.out HLX.out (small_mul (by omega) (by omega)) (small_mul (by omega) (by omega))).mono ?_
          intro e w7 h7
          obtain ⟨a7, c7, rfl, hp7, hb7⟩ := h7.open
          have HT2 := Lib.hid (side_theirs (headN [108]) (footN [114]) x L)
          obtain ⟨M2, hM2⟩ : ∃ M, mergeN x x L = M := ⟨_, rfl⟩
          have HM2 := Lib.hid hM2
          rw [hM2] at hp7 HT2 ⊢
          have P7 := Lib.hid hp7
          have B7 := Lib.hid (B6.out.trans (hb7.mono hs6))
          have hs7 := B7.out.size
          have O67 := Lib.hid (O6.out.kept (S' := fun k => k < w6.heap.size) (w' := w7) (fun k hk => ⟨hk.2, hb7.block k hk.2⟩))
          have hs67 := hb7.size
          clear h7 hp7 hb7 hM2 O6
          go_wp2_with fail
          refine (aw_bound HM2.out.symm P7.out (fun k hk => hk.2) (by omega) HXX.out HXX.out HLX.out [108] [114] (by decide) (by decide)).mono ?_
          rintro e w8 ⟨v8, rfl, ho8, hb8⟩
          rw [HT2.out.1] at ho8
          rw [HT2.out.2]
          have B8 := Lib.hid (B7.out.trans (hb8.mono hs7))
          have O8 := Lib.hid (ownS_c ho8)
          have O68 := Lib.hid (O67.out.kept (S' := fun k => k < w6.heap.size) (w' := w8) (fun k hk => ⟨hk, hb8.block k (by omega)⟩))
          obtain ⟨a8, c8, rfl⟩ := ownS_slice ho8
          have LL := Lib.hid (HLR.out w8 B8.out)
          clear ho8 hb8 P7 HT2 HM2 O67
          go_wp2_with fail
          refine (same_yes _ _ _ _ L L w8 O68.out LL.out (by omega) (by omega) rfl).mono ?_
          rintro e w9 ⟨rfl, n9, rfl⟩
          have O89 := Lib.hid (O8.out.kept (S' := fun k => w7.heap.size ≤ k ∧ k < w8.heap.size) (w' := w8.drewN n9) (fun k hk => ⟨hk, rfl⟩))
          have B9 := Lib.hid (B8.out.trans (drewn _ w8 n9))
          have LL9 := Lib.hid (HLR.out _ B9.out)
          clear O68 LL O8 B8
          generalize w8.drewN n9 = wz at *
          go_wp2_with fail
          refine (same_yes _ _ _ _ L L wz O89.out LL9.out (by omega) (by omega) rfl).mono ?_
          rintro e wy ⟨rfl, ny, rfl⟩
          have BY := Lib.hid (B9.out.trans (drewn _ wz ny))
          generalize wz.drewN ny = wy at *
          go_wp2_with fail
          go_roundw
          case rel => exact ⟨k + 1, by omega, by go_num, BY⟩
          case measure => simp [intOf]; omega
        · go_wp2_with fail
          go_ret
          exact ⟨rfl, BR.out.trans (hW.out.mono BR.out.size)⟩
  · have e3 : (decide (a.length ≤ 200) && decide (b.length ≤ 200) && decide (c.length ≤ 200)) = false := by
      rw [Bool.and_eq_false_iff, Bool.and_eq_false_iff, decide_eq_false_iff_not, decide_eq_false_iff_not, decide_eq_false_iff_not]; omega
    rw [e3]
    go_wp2_with fail
    go_ret
    exact ⟨rfl, B1.out⟩
end Go.Proofs.Ytfiogjdjcocbnaa
