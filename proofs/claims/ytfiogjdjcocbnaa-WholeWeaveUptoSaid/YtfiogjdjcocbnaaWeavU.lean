/- The law of sides. -/
import Derived.Test.YtfiogjdjcocbnaaWeavT
import Derived.Test.YtfiogjdjcocbnaaWeavD
import Derived.Test.YtfiogjdjcocbnaaLinQ
namespace Go.Proofs.Ytfiogjdjcocbnaa
open Go.RowKit
attribute [local go_sem ↓] Go.wp_at_zero Go.wp_at_succ

theorem aw_bound {w : World} {S : Nat → Prop} {v : Value} {M : List (PartN (List UInt8))} {a b c : List (List UInt8)} (hM : M = mergeN a b c) (hp : PartsC S w v M) (hS : ∀ k, S k → k < w.heap.size) (hl : a.length ≤ 600 ∧ b.length ≤ 6000 ∧ c.length ≤ 6000) (hax : ∀ x ∈ a, x.length ≤ 4194304) (hbx : ∀ x ∈ b, x.length ≤ 4194304) (hcx : ∀ x ∈ c, x.length ≤ 4194304) (so st : List UInt8) (hso : so.length ≤ 100) (hst : st.length ≤ 100):
    Calls Try.prog 38 #[v, .string ⟨so.toArray⟩, .string ⟨st.toArray⟩] w fun e w' => ∃ v, e = .returned (.tuple #[v, .bool (calmN M)]) ∧ OwnS w' w.heap.size v (textN (headN so) (footN st) M) ∧ Below w.heap.size w w' := by
  obtain ⟨f1, f2, f3⟩ := merge_flat a b c
  have hmem : ∀ p ∈ M, (∀ x ∈ p.base, x ∈ a) ∧ (∀ x ∈ p.ours, x ∈ b) ∧ (∀ x ∈ p.theirs, x ∈ c) := fun p hp => by
    subst hM
    exact ⟨fun x hx => by rw [← f1]; exact List.mem_flatMap.2 ⟨p, hp, hx⟩, fun x hx => by rw [← f2]; exact List.mem_flatMap.2 ⟨p, hp, hx⟩, fun x hx => by rw [← f3]; exact List.mem_flatMap.2 ⟨p, hp, hx⟩⟩
  have hg : ∀ p ∈ M, GoodPart p := by subst hM; exact good_all (merge_good a b c)
  have hlen : partsN M ≤ 5 * (a.length + b.length + c.length) ∧ M.length ≤ a.length + b.length + c.length := by
    have e := lens_sum M
    have e1 : (M.flatMap PartN.base).length = a.length := by rw [hM, f1]
    have e2 : (M.flatMap PartN.ours).length = b.length := by rw [hM, f2]
    have e3 : (M.flatMap PartN.theirs).length = c.length := by rw [hM, f3]
    rw [e1, e2, e3] at e
    rw [← e]
    clear e e1 e2 e3 hp hM hmem f1 f2 f3
    induction M with
    | nil => simp [partsN]
    | cons p r ih =>
      obtain ⟨i1, i2⟩ := ih (fun q hq => hg q (List.mem_cons_of_mem _ hq))
      have h1 := (hg p List.mem_cons_self).2
      have h2 : 1 ≤ p.base.length + p.ours.length + p.theirs.length := by
        rcases Nat.eq_zero_or_pos (p.base.length + p.ours.length + p.theirs.length) with h | h
        · exact absurd ⟨List.length_eq_zero_iff.1 (by omega), List.length_eq_zero_iff.1 (by omega), List.length_eq_zero_iff.1 (by omega)⟩ h1
        · exact h
      rw [partsN_cons, List.map_cons, List.sum_cons, List.length_cons]
      omega
  exact text_any S v M so st w hS hp (by omega) (fun p hp => ⟨fun x hx => hax x ((hmem p hp).1 x hx), fun x hx => hbx x ((hmem p hp).2.1 x hx), fun x hx => hcx x ((hmem p hp).2.2 x hx)⟩) (by omega) (by omega) (by omega)
/-- Merge and Text, one behind the other: what both leave. -/
theorem small_mul {a b : Nat} (ha : a ≤ 600) (hb : b ≤ 1700) : a * b ≤ 1048576 := Nat.le_trans (Nat.mul_le_mul ha hb) (by decide)
set_option maxRecDepth 100000 in
set_option maxHeartbeats 8000000 in
theorem wsides_law (S T : Nat → Prop) (va vb : Value) (a b : List (List UInt8)) (w : World) (hS : ∀ k, S k → k < w.heap.size) (hT : ∀ k, T k → k < w.heap.size) (ha : StrsC S w va a) (hb : StrsC T w vb b) (hsa : sumL a ≤ 1048576) (hsb : sumL b ≤ 1048576) :
    Calls Try.prog 13 #[va, vb] w (TrueP w) := by
  unfold TrueP
  obtain ⟨hal, hax⟩ := sum_bounds hsa
  obtain ⟨hbl, hbx⟩ := sum_bounds hsb
  have HA := Lib.hid (fun (W : World) (h : Below w.heap.size w W) => ha.kept (S' := fun k => k < w.heap.size) (w' := W) (fun k hk => ⟨hS k hk, h.block k (hS k hk)⟩))
  have HB := Lib.hid (fun (W : World) (h : Below w.heap.size w W) => hb.kept (S' := fun k => k < w.heap.size) (w' := W) (fun k hk => ⟨hT k hk, h.block k (hT k hk)⟩))
  obtain ⟨aa, ac, rfl⟩ := ha.shape
  obtain ⟨ba, bc, rfl⟩ := hb.shape
  have HAX := Lib.hid hax
  have HBX := Lib.hid hbx
  clear ha hb hS hT hsa hsb hax hbx
  go_enter Try.func13, Try.ntmps13
  go_wp2_with fail
  refine (awake8_any _).mono ?_
  rintro e w1 ⟨rfl, hb1⟩
  have B1 := Lib.hid hb1
  have hs1 := hb1.size
  clear hb1
  go_wp2_with fail
  refine (small_any _ _ _ _ _ _ _ _ _ w1 (by omega) (by omega) (by omega)).mono ?_
  rintro e w1' ⟨rfl, hw1⟩
  rw [hw1]
  clear hw1 w1'
  by_cases hsm : a.length ≤ 200 ∧ b.length ≤ 200
  · have e3 : (decide (a.length ≤ 200) && decide (b.length ≤ 200) && decide (0 ≤ 200)) = true := by simp [hsm.1, hsm.2]
    rw [e3]
    obtain ⟨h1, h2⟩ := hsm
    have HROW := Lib.hid (new_five w1 #[.slice aa a.length ac, .slice ba b.length bc, .slice aa a.length ac, .slice aa a.length ac, .slice aa a.length ac, .slice ba b.length bc, .slice aa a.length ac, .slice ba b.length bc, .slice ba b.length bc] 76)
    have BR : Hid (Below w.heap.size w (w1.alloc (.cells #[.slice aa a.length ac, .slice ba b.length bc, .slice aa a.length ac, .slice aa a.length ac, .slice aa a.length ac, .slice ba b.length bc, .slice aa a.length ac, .slice ba b.length bc, .slice ba b.length bc] 76))) := Lib.hid (B1.out.alloc hs1 _)
    have hrl : w1.heap.size < (w1.alloc (.cells #[.slice aa a.length ac, .slice ba b.length bc, .slice aa a.length ac, .slice aa a.length ac, .slice aa a.length ac, .slice ba b.length bc, .slice aa a.length ac, .slice ba b.length bc, .slice ba b.length bc] 76)).heap.size := by simp
    have HCASE : Hid (∀ (k : Nat), k < 3 → ∃ (x y z : List (List UInt8)) (ax ay az : Option Addr) (cx cy cz : Nat), (x.length ≤ 200 ∧ y.length ≤ 200 ∧ z.length ≤ 200) ∧
        (∀ W : World, W.heap[w1.heap.size]? = (w1.alloc (.cells #[.slice aa a.length ac, .slice ba b.length bc, .slice aa a.length ac, .slice aa a.length ac, .slice aa a.length ac, .slice ba b.length bc, .slice aa a.length ac, .slice ba b.length bc, .slice ba b.length bc] 76)).heap[w1.heap.size]? → W.cell? ⟨w1.heap.size, k * 3, none⟩ = some (.slice ax x.length cx) ∧ W.cell? ⟨w1.heap.size, k * 3 + 1, none⟩ = some (.slice ay y.length cy) ∧ W.cell? ⟨w1.heap.size, k * 3 + 2, none⟩ = some (.slice az z.length cz)) ∧
        (∀ W : World, Below w.heap.size w W → StrsC (fun k => k < w.heap.size) W (.slice ax x.length cx) x ∧ StrsC (fun k => k < w.heap.size) W (.slice ay y.length cy) y ∧ StrsC (fun k => k < w.heap.size) W (.slice az z.length cz) z) ∧
        ((∀ s ∈ x, s.length ≤ 4194304) ∧ (∀ s ∈ y, s.length ≤ 4194304) ∧ (∀ s ∈ z, s.length ≤ 4194304)) ∧
        (∀ head foot, textN head foot (mergeN x y z) = b) ∧ calmN (mergeN x y z) = true) := Lib.hid (fun k hk => by
      have hc : k = 0 ∨ k = 1 ∨ k = 2 := by omega
      rcases hc with rfl | rfl | rfl
      · exact ⟨a, b, a, aa, ba, aa, ac, bc, ac, ⟨h1, h2, h1⟩, fun W hW => by
          have h := hW.trans HROW.out
          exact ⟨by rw [cell_of_row _ _ _ _ _ _ h]; rfl, by rw [cell_of_row _ _ _ _ _ _ h]; rfl, by rw [cell_of_row _ _ _ _ _ _ h]; rfl⟩, fun W hW => ⟨HA.out W hW, HB.out W hW, HA.out W hW⟩, ⟨HAX.out, HBX.out, HAX.out⟩, fun hd ft => (side_ours hd ft a b).1, (side_ours [] [] a b).2⟩
      · exact ⟨a, a, b, aa, aa, ba, ac, ac, bc, ⟨h1, h1, h2⟩, fun W hW => by
          have h := hW.trans HROW.out
          exact ⟨by rw [cell_of_row _ _ _ _ _ _ h]; rfl, by rw [cell_of_row _ _ _ _ _ _ h]; rfl, by rw [cell_of_row _ _ _ _ _ _ h]; rfl⟩, fun W hW => ⟨HA.out W hW, HA.out W hW, HB.out W hW⟩, ⟨HAX.out, HAX.out, HBX.out⟩, fun hd ft => (side_theirs hd ft a b).1, (side_theirs [] [] a b).2⟩
      · exact ⟨a, b, b, aa, ba, ba, ac, bc, bc, ⟨h1, h2, h2⟩, fun W hW => by
          have h := hW.trans HROW.out
          exact ⟨by rw [cell_of_row _ _ _ _ _ _ h]; rfl, by rw [cell_of_row _ _ _ _ _ _ h]; rfl, by rw [cell_of_row _ _ _ _ _ _ h]; rfl⟩, fun W hW => ⟨HA.out W hW, HB.out W hW, HB.out W hW⟩, ⟨HAX.out, HBX.out, HBX.out⟩, fun hd ft => (side_both hd ft a b).1, (side_both [] [] a b).2⟩)
    go_upto_region 6 with fail
    clear HROW e3 HAX HBX
    generalize w1.alloc (.cells #[.slice aa a.length ac, .slice ba b.length bc, .slice aa a.length ac, .slice aa a.length ac, .slice aa a.length ac, .slice ba b.length bc, .slice aa a.length ac, .slice ba b.length bc, .slice ba b.length bc] 76) = wt at *
    obtain ⟨tb, htb⟩ : ∃ tb, w1.heap.size = tb := ⟨_, rfl⟩
    rw [htb] at HCASE hrl ⊢
    clear htb B1 hs1
    go_loopw [31] (fun n wr => ∃ (k : Nat), k ≤ 3 ∧ n = .int .i64 k ∧ Hid (Below wt.heap.size wt wr)) (fun n _ => 3 - (intOf n).toNat)
    case atStart => exact ⟨0, by omega, rfl, Lib.hid (Below.refl _ _)⟩
    case round =>
      obtain ⟨k, hk, rfl, hW⟩ := hrel
      by_cases hlt : k < 3
      · obtain ⟨x, y, z, ax, ay, az, cx, cy, cz, ⟨l1, l2, l3⟩, hcell, hstr, hbd, htx, hcm⟩ := HCASE.out k hlt
        obtain ⟨c0, c1, c2⟩ := hcell wr (hW.out.block tb hrl)
        have hwt := BR.out.size
        have hws := hW.out.size
        have BW := Lib.hid (BR.out.trans (hW.out.mono hwt))
        have HSTR := Lib.hid hstr
        have HBD := Lib.hid hbd
        have HTX := Lib.hid htx
        have HCM := Lib.hid hcm
        have BF : Hid (Below wr.heap.size wr (wr.alloc (.cells #[.slice ax x.length cx, .slice ay y.length cy, .slice az z.length cz] 76))) := Lib.hid ((Below.refl _ _).alloc (Nat.le_refl _) _)
        clear hcell hstr hbd htx hcm
        go_upto_region 8 with fail
        clear c0 c1 c2
        have FB := Lib.hid (new_five wr #[.slice ax x.length cx, .slice ay y.length cy, .slice az z.length cz] 76)
        generalize wr.alloc (.cells #[.slice ax x.length cx, .slice ay y.length cy, .slice az z.length cz] 76) = wf at *
        obtain ⟨b0, b1, b2⟩ := box3 (w' := wf) FB.out rfl
        have BFW := Lib.hid (BW.out.trans (BF.out.mono BW.out.size))
        have hsf := BFW.out.size
        go_wp2_with fail
        refine (merge_any _ _ _ _ _ _ x y z wf (fun k hk => Nat.lt_of_lt_of_le hk hsf) (fun k hk => Nat.lt_of_lt_of_le hk hsf) (fun k hk => Nat.lt_of_lt_of_le hk hsf) (HSTR.out wf BFW.out).1 (HSTR.out wf BFW.out).2.1 (HSTR.out wf BFW.out).2.2 (by omega) (by omega) (by omega) HBD.out.1 HBD.out.2.1 HBD.out.2.2 (small_mul (by omega) (by omega)) (small_mul (by omega) (by omega))).mono ?_
        intro e w5 h5
        obtain ⟨a5, c5, rfl, hp5, hb5⟩ := h5.open
        obtain ⟨M, hM⟩ : ∃ M, mergeN x y z = M := ⟨_, rfl⟩
        have HM := Lib.hid hM
        rw [hM] at hp5 HTX HCM ⊢
        have P5 := Lib.hid hp5
        have B5 := Lib.hid hb5
        clear h5 hp5 hb5 hM b0 b1 b2
        go_wp2_with fail
        refine (aw_bound HM.out.symm P5.out (fun k hk => hk.2) (by omega) HBD.out.1 HBD.out.2.1 HBD.out.2.2 [108] [114] (by decide) (by decide)).mono ?_
        rintro e w6 ⟨v6, rfl, ho6, hb6⟩
        rw [HTX.out] at ho6
        rw [HCM.out]
        have hs5 := B5.out.size
        have B6 := Lib.hid (B5.out.trans (hb6.mono hs5))
        have O6 := Lib.hid (ownS_c ho6)
        obtain ⟨a6, c6, rfl⟩ := ownS_slice ho6
        clear ho6 hb6 P5
        have BN := Lib.hid (BF.out.trans (B6.out.mono BF.out.size))
        have BNW := Lib.hid (BW.out.trans (BN.out.mono BW.out.size))
        have SB := Lib.hid (HB.out w6 BNW.out)
        go_wp2_with fail
        refine (same_yes _ _ _ _ b b w6 O6.out SB.out (by omega) (by omega) rfl).mono ?_
        rintro e w7 ⟨rfl, n7, rfl⟩
        have B7 := Lib.hid ((hW.out.trans (BN.out.mono hws)).trans (drewn _ w6 n7))
        clear O6 SB BN BNW B6 B5 BFW BF BW
        generalize w6.drewN n7 = w7 at *
        go_wp2_with fail
        go_roundw
        case rel => exact ⟨k + 1, by omega, by go_num, B7⟩
        case measure => simp [intOf]; omega
      · go_wp2_with fail
        go_ret
        exact ⟨rfl, BR.out.trans (hW.out.mono BR.out.size)⟩
  · have e3 : (decide (a.length ≤ 200) && decide (b.length ≤ 200) && decide (0 ≤ 200)) = false := by
      rw [Bool.and_eq_false_iff, Bool.and_eq_false_iff, decide_eq_false_iff_not, decide_eq_false_iff_not]; omega
    rw [e3]
    go_wp2_with fail
    go_ret
    exact ⟨rfl, B1.out⟩
end Go.Proofs.Ytfiogjdjcocbnaa
