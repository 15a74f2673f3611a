/- The walk of the reference's Merge, on. -/
import Derived.Test.YtfiogjdjcocbnaaWeavAe
namespace Go.Proofs.Ytfiogjdjcocbnaa
open Go.RowKit
attribute [local go_sem ↓] Go.wp_at_zero Go.wp_at_succ

theorem OwnR_on {E : Type} {rel : (Nat → Prop) → World → E → List Value → Prop} (hr : Keeps rel) {t : TypeId} {sz B : Nat} {S : Nat → Prop} {w w' : World} {v : Value} {css : List (List Value)} {es : List E} (h : OwnR rel t sz S w B v css es) (hs : w.heap.size ≤ w'.heap.size) (hk : ∀ q, q < w.heap.size → w'.heap[q]? = w.heap[q]?) : OwnR rel t sz S w' B v css es :=
  ⟨own_below h.own (fun q _ hq => hk q hq), h.len, h.each, h.one, fun j e cs he hc => hr _ _ _ _ _ _ (h.reads j e cs he hc) (fun q hq => ⟨⟨hq.1, Nat.lt_of_lt_of_le hq.2.1 hs, hq.2.2⟩, hk q hq.2.1⟩)⟩
/-- What the second loop's next step is. -/
theorem put_ways {os : List (PartN (List UInt8))} {p : PartN (List UInt8)} (hg : Good os) (hk : p.kind = kindN p.base p.ours p.theirs) (hne : ¬ (p.base = [] ∧ p.ours = [] ∧ p.theirs = [])) :
    (∃ ini q, os = ini ++ [q] ∧ q.kind = 0 ∧ p.kind = 0 ∧ putN os p = ini ++ [⟨0, q.base ++ p.base, q.base ++ p.base, q.base ++ p.base⟩]) ∨
    (putN os p = os ++ [p] ∧ (p.kind ≠ 0 ∨ os = [] ∨ ∃ ini q, os = ini ++ [q] ∧ q.kind ≠ 0)) := by
  rcases putN_cases os p with ⟨h, _⟩ | ⟨q, _, h2, h3, h4, h5⟩ | ⟨_, h2, h3⟩
  · exact absurd h hne
  · left
    have hq := (good_all hg q (by rw [h2]; simp)).1
    rw [h3] at hq
    obtain ⟨q1, q2⟩ := kind_zero.1 hq.symm
    rw [h4] at hk
    obtain ⟨p1, p2⟩ := kind_zero.1 hk.symm
    exact ⟨_, q, h2, h3, h4, by rw [h5, h3, ← q1, ← q2, ← p1, ← p2]⟩
  · right
    refine ⟨h3, ?_⟩
    by_cases hp : p.kind = 0
    · right
      by_cases ho : os = []
      · exact Or.inl ho
      · right
        have e := (List.dropLast_concat_getLast ho).symm
        exact ⟨_, _, e, fun hq => h2 _ e ⟨hq, hp⟩⟩
    · exact Or.inl hp
theorem place_neg (P : List (Nat × Nat)) (n : Nat) : placeN P n < 0 ∨ ∃ x : Nat, placeN P n = (x : Int) := by
  by_cases h : placeN P n < 0
  · exact Or.inl h
  · exact Or.inr ⟨(placeN P n).toNat, by omega⟩
/-- Where the first loop stands. -/
def AllSt (a b c : List (List UInt8)) (P1 P2 : List (Nat × Nat)) (ALL : List (PartN (List UInt8))) (n i j k : Nat) (bs : List (PartN (List UInt8))) : Prop :=
  ∃ ls : List (PartN (List UInt8)), bs = ls.map bareN ∧ ((n ≤ a.length ∧ ∃ o' t', SegSt a b c P1 P2 n i j k ls ALL o' t') ∨ (n = a.length + 1 ∧ ls = ALL))
theorem all_on {a b c : List (List UInt8)} {P1 P2 : List (Nat × Nat)} {ALL : List (PartN (List UInt8))} {n i j k : Nat} {bs : List (PartN (List UInt8))} (h : AllSt a b c P1 P2 ALL n i j k bs) (hn : n < a.length) :
    i ≤ n ∧ j ≤ b.length ∧ k ≤ c.length ∧ (((placeN P1 n < 0 ∨ placeN P2 n < 0) ∧ AllSt a b c P1 P2 ALL (n + 1) i j k bs) ∨
    ∃ x y : Nat, placeN P1 n = (x : Int) ∧ placeN P2 n = (y : Int) ∧ j ≤ x ∧ x < b.length ∧ k ≤ y ∧ y < c.length ∧
      AllSt a b c P1 P2 ALL (n + 1) (n + 1) (x + 1) (y + 1) (bs ++ [⟨0, (a.drop i).take (n - i), (b.drop j).take (x - j), (c.drop k).take (y - k)⟩, ⟨0, (a.drop n).take 1, (b.drop x).take 1, (c.drop y).take 1⟩])) := by
  obtain ⟨ls, hb, h⟩ := h
  rcases h with ⟨_, o', t', h⟩ | ⟨h, _⟩
  · refine ⟨h.hi, h.hj, h.hk, ?_⟩
    rcases h.step with ⟨h1, o2, t2, h2⟩ | ⟨x, y, h1, h2, h3, h4, h5, h6, o2, t2, h7⟩
    · exact Or.inl ⟨h1, ls, hb, Or.inl ⟨by omega, o2, t2, h2⟩⟩
    · exact Or.inr ⟨x, y, h1, h2, h3, h4, h5, h6, _, by rw [List.map_append, ← hb]; rfl, Or.inl ⟨by omega, o2, t2, h7⟩⟩
  · omega
theorem all_last {a b c : List (List UInt8)} {P1 P2 : List (Nat × Nat)} {ALL : List (PartN (List UInt8))} {i j k : Nat} {bs : List (PartN (List UInt8))} (h : AllSt a b c P1 P2 ALL a.length i j k bs) :
    i ≤ a.length ∧ j ≤ b.length ∧ k ≤ c.length ∧ AllSt a b c P1 P2 ALL (a.length + 1) (a.length + 1) (b.length + 1) (c.length + 1) (bs ++ [⟨0, (a.drop i).take (a.length - i), (b.drop j).take (b.length - j), (c.drop k).take (c.length - k)⟩]) := by
  obtain ⟨ls, hb, h⟩ := h
  rcases h with ⟨_, o', t', h⟩ | ⟨h, _⟩
  · exact ⟨h.hi, h.hj, h.hk, _, by rw [hb, ← h.last, List.map_append]; rfl, Or.inr ⟨rfl, rfl⟩⟩
  · omega
theorem all_done {a b c : List (List UInt8)} {P1 P2 : List (Nat × Nat)} {ALL : List (PartN (List UInt8))} {n i j k : Nat} {bs : List (PartN (List UInt8))} (h : AllSt a b c P1 P2 ALL n i j k bs) (hn : a.length < n) : bs = ALL.map bareN := by
  obtain ⟨ls, hb, h⟩ := h
  rcases h with ⟨h, _⟩ | ⟨_, h⟩
  · omega
  · rw [hb, h]
set_option maxRecDepth 100000 in
set_option maxHeartbeats 8000000 in
theorem rmerge_any (S U R : Nat → Prop) (va vb vc : Value) (a b c : List (List UInt8)) (w : World) (hS : ∀ k, S k → k < w.heap.size) (hT : ∀ k, U k → k < w.heap.size) (hR : ∀ k, R k → k < w.heap.size) (ha : StrsC S w va a) (hb : StrsC U w vb b) (hc : StrsC R w vc c)
    (hal : a.length ≤ 1048576) (hbl : b.length ≤ 1048576) (hcl : c.length ≤ 1048576) (hm1 : a.length * b.length ≤ 1048576) (hm2 : a.length * c.length ≤ 1048576) :
    Calls Try.prog 37 #[va, vb, vc] w (RMergeP w (mergeN a b c)) := by
  obtain ⟨i0, hi, hz0, hz1, hz2⟩ := info_parts Try.info9s
  obtain ⟨j0, hj, hy0, hy1, hy2⟩ := info_parts Try.info100r
  have HP1 := Lib.hid (rpairs_any S U va vb a b w hS hT ha hb (by omega) (by omega) hm1)
  have HP2 := Lib.hid (fun (W : World) (h : Below w.heap.size w W) => rpairs_any S R va vc a c W (fun k hk => Nat.lt_of_lt_of_le (hS k hk) h.size) (fun k hk => Nat.lt_of_lt_of_le (hR k hk) h.size) (ha.kept (fun k hk => ⟨hk, h.block k (hS k hk)⟩)) (hc.kept (fun k hk => ⟨hk, h.block k (hR k hk)⟩)) (by omega) (by omega) hm2)
  have hpl1 : (pairsN a 0 b 0).length ≤ 4194304 := by rw [pairsN_len]; have := (lcs_len a b).1; omega
  have hpl2 : (pairsN a 0 c 0).length ≤ 4194304 := by rw [pairsN_len]; have := (lcs_len a c).1; omega
  obtain ⟨aa, ac, rfl⟩ := ha.shape
  obtain ⟨ba, bc, rfl⟩ := hb.shape
  obtain ⟨ca, cc, rfl⟩ := hc.shape
  have HA := Lib.hid ha
  have HB := Lib.hid hb
  have HC := Lib.hid hc
  have HS := Lib.hid hS
  have HT := Lib.hid hT
  have HR3 := Lib.hid hR
  obtain ⟨ALL, hALL⟩ : ∃ x, segsN a b c 0 0 0 (fastN (pairsN a 0 b 0) (pairsN a 0 c 0)) = x := ⟨_, rfl⟩
  have HKD : Hid (∀ p ∈ ALL, p.kind = kindN p.base p.ours p.theirs) := Lib.hid (by rw [← hALL]; exact segs_kind _ _ _ _ _ _ _)
  have HM : Hid (ALL.foldl putN [] = mergeN a b c) := Lib.hid (by rw [← hALL]; rfl)
  have HST : Hid (AllSt a b c (pairsN a 0 b 0) (pairsN a 0 c 0) ALL 0 0 0 0 []) := Lib.hid ⟨[], rfl, Or.inl ⟨Nat.zero_le _, _, _, by rw [← hALL]; exact segst_start a b c⟩⟩
  have HFL : Hid (∀ p ∈ ALL, p.base.length ≤ 1048576 ∧ p.ours.length ≤ 1048576 ∧ p.theirs.length ≤ 1048576) := Lib.hid (by
    obtain ⟨f1, f2, f3⟩ := segs_base (fastN (pairsN a 0 b 0) (pairsN a 0 c 0)) a b c 0 0 0
    rw [hALL] at f1 f2 f3
    intro p hp
    have k1 := flat_mem PartN.base ALL p hp
    have k2 := flat_mem PartN.ours ALL p hp
    have k3 := flat_mem PartN.theirs ALL p hp
    rw [f1] at k1; rw [f2] at k2; rw [f3] at k3
    exact ⟨by omega, by omega, by omega⟩)
  have HOL : Hid (∀ k, ∀ q ∈ (ALL.take k).foldl putN [], q.base.length ≤ 1048576) := Lib.hid (by
    obtain ⟨f1, _, _⟩ := segs_base (fastN (pairsN a 0 b 0) (pairsN a 0 c 0)) a b c 0 0 0
    rw [hALL] at f1
    intro k q hq
    have k1 := flat_mem PartN.base _ q hq
    rw [puts_flat _ (fun p h => h.1) (fun _ _ => rfl)] at k1
    have k2 : ((ALL.take k).flatMap PartN.base).length ≤ (ALL.flatMap PartN.base).length := by
      conv => rhs; rw [← List.take_append_drop k ALL, List.flatMap_append, List.length_append]
      omega
    rw [f1] at k2
    simp only [List.flatMap_nil, List.nil_append] at k1
    omega)
  have HGO : Hid (∀ k, Good ((ALL.take k).foldl putN [])) := Lib.hid (fun k => puts_good _ _ trivial (fun p hp => by
    have := List.mem_of_mem_take hp
    rw [← hALL] at this
    exact segs_kind _ _ _ _ _ _ _ _ this))
  obtain ⟨M, hM⟩ : ∃ x, mergeN a b c = x := ⟨_, rfl⟩
  rw [hM] at HM ⊢
  obtain ⟨P1, hP1⟩ : ∃ P, pairsN a 0 b 0 = P := ⟨_, rfl⟩
  obtain ⟨P2, hP2⟩ : ∃ P, pairsN a 0 c 0 = P := ⟨_, rfl⟩
  rw [hP1] at HP1 hpl1 HST
  rw [hP2] at HP2 hpl2 HST
  clear ha hb hc hS hT hR hm1 hm2 hALL hM hP1 hP2
  go_enter Try.func37, Try.ntmps37
  go_wp2_with fail
  refine HP1.out.mono ?_
  rintro e w1 ⟨v1, rfl, ho1, hb1⟩
  have B1 := Lib.hid hb1
  have O1 := Lib.hid (ownK_c ho1)
  obtain ⟨p1a, p1c, rfl⟩ := ownK_slice ho1
  clear ho1 hb1 HP1
  go_wp2_with fail
  refine (HP2.out w1 B1.out).mono ?_
  rintro e w2 ⟨v2, rfl, ho2, hb2⟩
  have B2 := Lib.hid (B1.out.trans (hb2.mono B1.out.size))
  have Q1 := Lib.hid (fun (W : World) (h : Below w2.heap.size w2 W) => O1.out.kept (S' := fun _ => True) (w' := W) (fun k hk => ⟨trivial, (h.block k (Nat.lt_of_lt_of_le hk.2 hb2.size)).trans (hb2.block k hk.2)⟩))
  have Q2 := Lib.hid (fun (W : World) (h : Below w2.heap.size w2 W) => (ownK_c ho2).kept (S' := fun _ => True) (w' := W) (fun k hk => ⟨trivial, h.block k hk.2⟩))
  obtain ⟨p2a, p2c, rfl⟩ := ownK_slice ho2
  clear ho2 hb2 HP2 O1 B1
  go_wp2_with fail
  go_loopw [12, 13, 14, 15, 16] (fun l i j k n wr => ∃ (xn xi xj xk : Nat) (css : List (List Value)) (bs : List (PartN (List UInt8))), xn ≤ a.length + 1 ∧ n = .int .i64 xn ∧ i = .int .i64 xi ∧ j = .int .i64 xj ∧ k = .int .i64 xk ∧ xi ≤ 1048577 ∧ xj ≤ 1048577 ∧ xk ≤ 1048577 ∧ bs.length ≤ 2 * xn ∧ Hid (AllSt a b c P1 P2 ALL xn xi xj xk bs) ∧ Hid (OwnR partRel 100 4 (fun _ => True) wr w2.heap.size l css bs) ∧ Hid (Below w2.heap.size w2 wr)) (fun _ _ _ _ n _ => a.length + 1 - (intOf n).toNat)
  case atStart => exact ⟨0, 0, 0, 0, [], [], Nat.zero_le _, rfl, rfl, rfl, rfl, by omega, by omega, by omega, Nat.le_refl _, HST, Lib.hid (OwnR.nil _ _ _ _ _ _), Lib.hid (Below.refl _ _)⟩
  case round =>
    obtain ⟨n, i, j, k, css, bs, hn, rfl, rfl, rfl, rfl, hxi, hxj, hxk, hbl2, hSt, HO, HW⟩ := hrel
    by_cases hlt : n < a.length
    · obtain ⟨s1, s2, s3, hstep⟩ := all_on hSt.out hlt
      have HSTEP := Lib.hid hstep
      have PL1 := Lib.hid (place_any _ _ P1 n wr (Q1.out wr HW.out) hpl1)
      have PL2 := Lib.hid (fun m => place_any _ _ P2 n (wr.drewN m) (Q2.out _ (HW.out.trans (drewn _ wr m))) hpl2)
      clear hstep hSt
      go_wp2_with fail
      refine PL1.out.mono ?_
      rintro e w3 ⟨rfl, m3, rfl⟩
      go_wp2_with fail
      refine (PL2.out m3).mono ?_
      rintro e w4 ⟨rfl, m4, rfl⟩
      rw [World.drewN_drewN]
      have HOQ := Lib.hid (OwnR_drewN part_keeps HO.out (m3 + m4))
      have HWQ := Lib.hid (HW.out.trans (drewn _ wr (m3 + m4)))
      clear PL1 PL2 HO HW
      generalize wr.drewN (m3 + m4) = wx at *
      have HO := HOQ
      have HW := HWQ
      clear HOQ HWQ
      rcases HSTEP.out with ⟨hneg, hS2⟩ | ⟨x, y, e1, e2, hx1, hx2, hy1', hy2', hS2⟩
      · have HS2 := Lib.hid hS2
        clear hS2 HSTEP
        rcases place_neg P1 n with h1 | ⟨x, h1⟩
        · generalize placeN P1 n = px at *
          generalize placeN P2 n = py at *
          clear hneg
          obtain ⟨lra, lrc, rfl⟩ := ownR_slice HO.out
          go_wp2_with fail
          go_roundw
          case rel => exact ⟨n + 1, i, j, k, css, bs, by omega, by go_num, rfl, rfl, rfl, hxi, hxj, hxk, by omega, HS2, HO, HW⟩
          case measure => simp [intOf]; omega
        · have h2 : placeN P2 n < 0 := by omega
          rw [h1]
          generalize placeN P2 n = py at *
          clear hneg h1
          obtain ⟨lra, lrc, rfl⟩ := ownR_slice HO.out
          go_wp2_with fail
          go_roundw
          case rel => exact ⟨n + 1, i, j, k, css, bs, by omega, by go_num, rfl, rfl, rfl, hxi, hxj, hxk, by omega, HS2, HO, HW⟩
          case measure => simp [intOf]; omega
      · rw [e1, e2]
        have HS2 := Lib.hid hS2
        clear e1 e2 hS2 HSTEP
        obtain ⟨pA1, qA1, rA1, tA1⟩ := HA.out.cut (lo := i) (hi := n) (by omega) (by omega)
        obtain ⟨cAa, hAa⟩ : ∃ z_, (a.drop (i)).take (n - (i)) = z_ := ⟨_, rfl⟩
        rw [hAa] at rA1 tA1
        skip
        have TA1 := Lib.hid tA1
        have KA1 := Lib.hid hAa
        clear tA1 hAa
        obtain ⟨pA2, qA2, rA2, tA2⟩ := HB.out.cut (lo := j) (hi := x) (by omega) (by omega)
        obtain ⟨cAb, hAb⟩ : ∃ z_, (b.drop (j)).take (x - (j)) = z_ := ⟨_, rfl⟩
        rw [hAb] at rA2 tA2
        skip
        have TA2 := Lib.hid tA2
        have KA2 := Lib.hid hAb
        clear tA2 hAb
        obtain ⟨pA3, qA3, rA3, tA3⟩ := HC.out.cut (lo := k) (hi := y) (by omega) (by omega)
        obtain ⟨cAc, hAc⟩ : ∃ z_, (c.drop (k)).take (y - (k)) = z_ := ⟨_, rfl⟩
        rw [hAc] at rA3 tA3
        skip
        have TA3 := Lib.hid tA3
        have KA3 := Lib.hid hAc
        clear tA3 hAc
        obtain ⟨ora, orc, rfl⟩ := ownR_slice HO.out
        go_upto_region 16 with fail
        refine wp_region_held_drew (S := (fun _ => True)) (by kernel_rfl) (by trivial) (fun hHeld => ?_)
        have HOD := Lib.hid (OwnR_drewN part_keeps HO.out 1)
        have HwdA := Lib.hid (HW.out.trans (drewn _ wx 1))
        clear HO HW
        change Hid (OwnR _ _ _ _ wx.drew _ _ _ _) at HOD
        change Hid (Below _ _ wx.drew) at HwdA
        generalize wx.drew = wdA at *
        have hsd := HwdA.out.size
        refine wpAnyH_take (i := 0) (oi := ⟨_, _, _, _, _, _⟩) (v := ?_) rfl (by kernel_rfl) (by kernel_rfl) (by kernel_rfl) (fun _ _ _ h => h) (Or.inl ⟨by rfl, ?_⟩) (by assumption) ?_
        rotate_left
        · intro w hSw; (try dsimp only at hSw); first | (go_simp; done) | (go_simp; with_reducible rfl)
        try simp only [Act.put, List.setIfInBounds_toArray, List.set_cons_zero, List.set_cons_succ]
        refine wpAnyH_take (i := 1) (oi := ⟨_, _, _, _, _, _⟩) (v := ?_) rfl (by kernel_rfl) (by kernel_rfl) (by kernel_rfl) (fun _ _ _ h => h) (Or.inl ⟨by rfl, ?_⟩) (by assumption) ?_
        rotate_left
        · intro w hSw; (try dsimp only at hSw); first | (go_simp; done) | (go_simp; with_reducible rfl)
        try simp only [Act.put, List.setIfInBounds_toArray, List.set_cons_zero, List.set_cons_succ]
        refine wpAnyH_take (i := 2) (oi := ⟨_, _, _, _, _, _⟩) (v := ?_) rfl (by kernel_rfl) (by kernel_rfl) (by kernel_rfl) (fun _ _ _ h => h) (Or.inl ⟨by rfl, ?_⟩) (by assumption) ?_
        rotate_left
        · intro w hSw; (try dsimp only at hSw); first | (go_simp; done) | (go_simp; with_reducible rfl)
        try simp only [Act.put, List.setIfInBounds_toArray, List.set_cons_zero, List.set_cons_succ]
        refine wpAnyH_take (i := 3) (oi := ⟨_, _, _, _, _, _⟩) (v := ?_) rfl (by kernel_rfl) (by kernel_rfl) (by kernel_rfl) (fun _ _ _ h => h) (Or.inl ⟨by rfl, ?_⟩) (by assumption) ?_
        rotate_left
        · intro w hSw; (try dsimp only at hSw); first | (go_simp; done) | (go_simp; with_reducible rfl)
        try simp only [Act.put, List.setIfInBounds_toArray, List.set_cons_zero, List.set_cons_succ]
        refine wpAnyH_take (i := 4) (oi := ⟨_, _, _, _, _, _⟩) (v := ?_) rfl (by kernel_rfl) (by kernel_rfl) (by kernel_rfl) (fun _ _ _ h => h) (Or.inl ⟨by rfl, ?_⟩) (by assumption) ?_
        rotate_left
        · intro w hSw; (try dsimp only at hSw); first | (go_simp; done) | (go_simp; with_reducible rfl)
        try simp only [Act.put, List.setIfInBounds_toArray, List.set_cons_zero, List.set_cons_succ]
        refine wpAnyH_take (i := 5) (oi := ⟨_, _, _, _, _, _⟩) (v := ?_) rfl (by kernel_rfl) (by kernel_rfl) (by kernel_rfl) (fun _ _ _ h => h) (Or.inl ⟨by rfl, ?_⟩) (by assumption) ?_
        rotate_left
        · intro w hSw; (try dsimp only at hSw); first | (go_simp; done) | (go_simp; with_reducible rfl)
        try simp only [Act.put, List.setIfInBounds_toArray, List.set_cons_zero, List.set_cons_succ]
        refine wpAnyH_take (i := 6) (oi := ⟨_, _, _, _, _, _⟩) (v := ?_) rfl (by kernel_rfl) (by kernel_rfl) (by kernel_rfl) (fun _ _ _ h => h) (Or.inl ⟨by rfl, ?_⟩) (by assumption) ?_
        rotate_left
        · intro w hSw; (try dsimp only at hSw); first | (go_simp; done) | (go_simp; with_reducible rfl)
        try simp only [Act.put, List.setIfInBounds_toArray, List.set_cons_zero, List.set_cons_succ]
        refine wpAnyH_take (i := 7) (oi := ⟨_, _, _, _, _, _⟩) (v := ?_) rfl (by kernel_rfl) (by kernel_rfl) (by kernel_rfl) (fun _ _ _ h => h) (Or.inl ⟨by rfl, ?_⟩) (by assumption) ?_
        rotate_left
        · intro w hSw; (try dsimp only at hSw); first | (go_simp; done) | (go_simp; with_reducible rfl)
        try simp only [Act.put, List.setIfInBounds_toArray, List.set_cons_zero, List.set_cons_succ]
        refine wpAnyH_take (i := 8) (oi := ⟨_, _, _, _, _, _⟩) (v := ?_) rfl (by kernel_rfl) (by kernel_rfl) (by kernel_rfl) (fun _ _ _ h => h) (Or.inl ⟨by rfl, ?_⟩) (by assumption) ?_
        rotate_left
        · intro w hSw; (try dsimp only at hSw); first | (go_simp; done) | (go_simp; with_reducible rfl)
        try simp only [Act.put, List.setIfInBounds_toArray, List.set_cons_zero, List.set_cons_succ]
        refine wpAnyH_take (i := 9) (oi := ⟨_, _, _, _, _, _⟩) (v := ?_) rfl (by kernel_rfl) (by kernel_rfl) (by kernel_rfl) (fun _ _ _ h => h) (Or.inl ⟨by rfl, ?_⟩) (by assumption) ?_
        rotate_left
        · intro w hSw; (try dsimp only at hSw); first | (go_simp; done) | (go_simp; with_reducible rfl)
        try simp only [Act.put, List.setIfInBounds_toArray, List.set_cons_zero, List.set_cons_succ]
        refine wpAnyH_take (i := 10) (oi := ⟨_, _, _, _, _, _⟩) (v := ?_) rfl (by kernel_rfl) (by kernel_rfl) (by kernel_rfl) (fun _ _ _ h => h) (Or.inl ⟨by rfl, ?_⟩) (by assumption) ?_
        rotate_left
        · intro w hSw; (try dsimp only at hSw); first | (go_simp; done) | (go_simp; with_reducible rfl)
        try simp only [Act.put, List.setIfInBounds_toArray, List.set_cons_zero, List.set_cons_succ]
        refine wpAnyH_take (i := 11) (oi := ⟨_, _, _, _, _, _⟩) (v := ?_) rfl (by kernel_rfl) (by kernel_rfl) (by kernel_rfl) (fun _ _ _ h => h) (Or.inl ⟨by rfl, ?_⟩) (by assumption) ?_
        rotate_left
        · intro w hSw; (try dsimp only at hSw); first | (go_simp; done) | (go_simp; with_reducible rfl)
        try simp only [Act.put, List.setIfInBounds_toArray, List.set_cons_zero, List.set_cons_succ]
        refine wpAnyH_take (i := 12) (oi := ⟨_, _, _, _, _, _⟩) (v := ?_) rfl (by kernel_rfl) (by kernel_rfl) (by kernel_rfl) (fun _ _ _ h => h) (Or.inl ⟨by rfl, ?_⟩) (by assumption) ?_
        rotate_left
        · intro w hSw; (try dsimp only at hSw); first | (go_simp; done) | (go_simp; with_reducible rfl)
        try simp only [Act.put, List.setIfInBounds_toArray, List.set_cons_zero, List.set_cons_succ]
        refine wpAnyH_take (i := 13) (oi := ⟨_, _, _, _, _, _⟩) (v := ?_) rfl (by kernel_rfl) (by kernel_rfl) (by kernel_rfl) (fun _ _ _ h => h) (Or.inl ⟨by rfl, ?_⟩) (by assumption) ?_
        rotate_left
        · intro w hSw; (try dsimp only at hSw); first | (go_simp; done) | (go_simp; with_reducible rfl)
        try simp only [Act.put, List.setIfInBounds_toArray, List.set_cons_zero, List.set_cons_succ]
        refine wpAnyH_ready (rs := [14]) (by kernel_rfl) (by simp) ?_
        refine AllReadyH.cons (o := ⟨_, _, _, _, _, _⟩) rfl (fun K hK => ?_) AllReadyH.nil
        go_simp
        refine any_step (fun weA hNA => ?_)
        have SRC : Hid (Src Try.prog 4 63 (.slice (some ⟨wdA.heap.size, 0, none⟩) 1 1) 1 [.int .i64 0, .slice pA1 cAa.length qA1, .slice pA2 cAb.length qA2, .slice pA3 cAc.length qA3] weA) := Lib.hid (by rw [hNA]; exact srcQ_one _ _ _ _ _ _ _ _ _ _ _)
        have HEQA := Lib.hid hNA
        have OWE : Hid (weA.ownsRow w2.heap.size 100 4 (.slice ora bs.length orc) bs.length css.flatten) := Lib.hid (by rw [hNA]; exact World.ownsRow.alloc HOD.out.own _)
        have hse : w2.heap.size ≤ weA.heap.size := by rw [hNA]; simp; omega
        obtain ⟨qe, hqe⟩ : ∃ q, wdA.heap.size = q := ⟨_, rfl⟩
        rw [hqe] at SRC ⊢
        clear hNA hqe
        try go_wp2_with fail
        refine hK.out _ _ (by trivial) (fun hHeld => ?_)
        clear hK K
        try simp only [Act.put, List.setIfInBounds_toArray, List.set_cons_zero, List.set_cons_succ]
        refine wpAnyH_ready (rs := [15]) (by kernel_rfl) (by simp) ?_
        refine AllReadyH.cons (o := ⟨_, _, _, _, _, _⟩) rfl (fun K hK => ?_) AllReadyH.nil
        refine step_own_src _ rfl _ _ 63 63 (by rfl) w2.heap.size 100 j0 (.agg #[.int .i64 0, .slice none 0 0, .slice none 0 0, .slice none 0 0]) 4 80 Try.underlying63 hj hy0 hy1 hy2 rfl (by decide) _ _ _ (by rfl) OWE.out _ _ _ (by rfl) SRC.out (by unfold maxLen; omega) (by omega) hse ?_
        intro vA wA hown hgr
        rw [HEQA.out] at hgr
        have HWA : Hid (Below w2.heap.size w2 wA) := Lib.hid ((HwdA.out.alloc hsd _).grown hgr.gb (by simp; omega) (fun q hq => (World.ownsRow.lt HOD.out.own q hq).1))
        have KK : ∀ q, q < w.heap.size → ((True ∧ q < (wdA.alloc (.cells #[.int .i64 0, .slice pA1 cAa.length qA1, .slice pA2 cAb.length qA2, .slice pA3 cAc.length qA3] 100)).heap.size ∧ (Value.slice ora bs.length orc).ownBlock ≠ some q) ∧ (wdA.alloc (.cells #[.int .i64 0, .slice pA1 cAa.length qA1, .slice pA2 cAb.length qA2, .slice pA3 cAc.length qA3] 100)).heap[q]? = w.heap[q]?) := fun q hq => by
          have h2 := B2.out.size
          exact ⟨⟨trivial, by simp; omega, fun e => by have := (World.ownsRow.lt HOD.out.own q e).1; omega⟩, (Below.heap_alloc _ _ _ (by omega)).trans ((HwdA.out.block q (by omega)).trans (B2.out.block q hq))⟩
        have HOA := Lib.hid (HOD.out.push part_keeps (fun q hq _ => Below.heap_alloc _ _ _ hq) (by simp) hgr rfl (fun u hu => by simp at hu; rcases hu with rfl | rfl | rfl | rfl <;> rfl) hown (e := (⟨0, cAa, cAb, cAc⟩ : PartN (List UInt8))) ⟨_, _, _, rfl, TA1.out.kept (fun q hq => KK q (HS.out q hq)), TA2.out.kept (fun q hq => KK q (HT.out q hq)), TA3.out.kept (fun q hq => KK q (HR3.out q hq))⟩)
        obtain ⟨bA, hb0⟩ : ∃ z, bs ++ [(⟨0, cAa, cAb, cAc⟩ : PartN (List UInt8))] = z := ⟨_, rfl⟩
        rw [hb0] at HOA
        have HEA := Lib.hid hb0
        have bAl : bA.length ≤ 2 * n + 1 := by rw [← hb0]; simp; omega
        clear hb0
        obtain ⟨fAa, fAc, rfl⟩ := ownR_slice HOA.out
        clear hown hgr KK HOD HwdA OWE SRC HEQA TA1 TA2 TA3 hse
        refine hK.out _ _ (by trivial) (fun hHeld => ?_)
        clear hK K
        try simp only [Act.put, List.setIfInBounds_toArray, List.set_cons_zero, List.set_cons_succ]
        refine wpAnyH_take (i := 16) (oi := ⟨_, _, _, _, _, _⟩) (v := ?_) rfl (by kernel_rfl) (by kernel_rfl) (by kernel_rfl) (fun _ _ _ h => h) (Or.inl ⟨by rfl, ?_⟩) (by assumption) ?_
        rotate_left
        · intro w hSw; (try dsimp only at hSw); first | (go_simp; done) | (go_simp; with_reducible rfl)
        try simp only [Act.put, List.setIfInBounds_toArray, List.set_cons_zero, List.set_cons_succ]
        refine wpAnyH_done (by kernel_rfl) ?_ _
        clear hHeld
        obtain ⟨cssA, HO⟩ : ∃ cs, Hid (OwnR partRel 100 4 (fun _ => True) wA w2.heap.size (.slice fAa bA.length fAc) cs bA) := ⟨_, HOA⟩
        have HW := HWA
        clear HOA HWA
        obtain ⟨pB1, qB1, rB1, tB1⟩ := HA.out.cut (lo := n) (hi := n + 1) (by omega) (by omega)
        obtain ⟨cBa, hBa⟩ : ∃ z_, (a.drop (n)).take (n + 1 - (n)) = z_ := ⟨_, rfl⟩
        rw [hBa] at rB1 tB1
        push_cast at rB1
        have TB1 := Lib.hid tB1
        have KB1 := Lib.hid hBa
        clear tB1 hBa
        obtain ⟨pB2, qB2, rB2, tB2⟩ := HB.out.cut (lo := x) (hi := x + 1) (by omega) (by omega)
        obtain ⟨cBb, hBb⟩ : ∃ z_, (b.drop (x)).take (x + 1 - (x)) = z_ := ⟨_, rfl⟩
        rw [hBb] at rB2 tB2
        push_cast at rB2
        have TB2 := Lib.hid tB2
        have KB2 := Lib.hid hBb
        clear tB2 hBb
        obtain ⟨pB3, qB3, rB3, tB3⟩ := HC.out.cut (lo := y) (hi := y + 1) (by omega) (by omega)
        obtain ⟨cBc, hBc⟩ : ∃ z_, (c.drop (y)).take (y + 1 - (y)) = z_ := ⟨_, rfl⟩
        rw [hBc] at rB3 tB3
        push_cast at rB3
        have TB3 := Lib.hid tB3
        have KB3 := Lib.hid hBc
        clear tB3 hBc
        have hwrn : IntKind.i64.wrap ((n : Int) + 1) = (n : Int) + 1 := IntWalk.i64_in _ (by omega)
        have hwrx : IntKind.i64.wrap ((x : Int) + 1) = (x : Int) + 1 := IntWalk.i64_in _ (by omega)
        have hwry : IntKind.i64.wrap ((y : Int) + 1) = (y : Int) + 1 := IntWalk.i64_in _ (by omega)
        go_upto_region 18 with fail
        refine wp_region_held_drew (S := (fun _ => True)) (by kernel_rfl) (by trivial) (fun hHeld => ?_)
        have HOD := Lib.hid (OwnR_drewN part_keeps HO.out 1)
        have HwdB := Lib.hid (HW.out.trans (drewn _ wA 1))
        clear HO HW
        change Hid (OwnR _ _ _ _ wA.drew _ _ _ _) at HOD
        change Hid (Below _ _ wA.drew) at HwdB
        generalize wA.drew = wdB at *
        have hsd := HwdB.out.size
        refine wpAnyH_take (i := 0) (oi := ⟨_, _, _, _, _, _⟩) (v := ?_) rfl (by kernel_rfl) (by kernel_rfl) (by kernel_rfl) (fun _ _ _ h => h) (Or.inl ⟨by rfl, ?_⟩) (by assumption) ?_
        rotate_left
        · intro w hSw; (try dsimp only at hSw); first | (go_simp; done) | (go_simp; with_reducible rfl)
        try simp only [Act.put, List.setIfInBounds_toArray, List.set_cons_zero, List.set_cons_succ]
        refine wpAnyH_take (i := 1) (oi := ⟨_, _, _, _, _, _⟩) (v := ?_) rfl (by kernel_rfl) (by kernel_rfl) (by kernel_rfl) (fun _ _ _ h => h) (Or.inl ⟨by rfl, ?_⟩) (by assumption) ?_
        rotate_left
        · intro w hSw; (try dsimp only at hSw); first | (go_simp; done) | (go_simp; with_reducible rfl)
        try simp only [Act.put, List.setIfInBounds_toArray, List.set_cons_zero, List.set_cons_succ]
        refine wpAnyH_take (i := 2) (oi := ⟨_, _, _, _, _, _⟩) (v := ?_) rfl (by kernel_rfl) (by kernel_rfl) (by kernel_rfl) (fun _ _ _ h => h) (Or.inl ⟨by rfl, ?_⟩) (by assumption) ?_
        rotate_left
        · intro w hSw; (try dsimp only at hSw); first | (go_simp; done) | (go_simp; with_reducible rfl)
        try simp only [Act.put, List.setIfInBounds_toArray, List.set_cons_zero, List.set_cons_succ]
        refine wpAnyH_take (i := 3) (oi := ⟨_, _, _, _, _, _⟩) (v := ?_) rfl (by kernel_rfl) (by kernel_rfl) (by kernel_rfl) (fun _ _ _ h => h) (Or.inl ⟨by rfl, ?_⟩) (by assumption) ?_
        rotate_left
        · intro w hSw; (try dsimp only at hSw); first | (go_simp; done) | (go_simp; with_reducible rfl)
        try simp only [Act.put, List.setIfInBounds_toArray, List.set_cons_zero, List.set_cons_succ]
        refine wpAnyH_take (i := 4) (oi := ⟨_, _, _, _, _, _⟩) (v := ?_) rfl (by kernel_rfl) (by kernel_rfl) (by kernel_rfl) (fun _ _ _ h => h) (Or.inl ⟨by rfl, ?_⟩) (by assumption) ?_
        rotate_left
        · intro w hSw; (try dsimp only at hSw); first | (go_simp; done) | (go_simp; with_reducible rfl)
        try simp only [Act.put, List.setIfInBounds_toArray, List.set_cons_zero, List.set_cons_succ]
        refine wpAnyH_take (i := 5) (oi := ⟨_, _, _, _, _, _⟩) (v := ?_) rfl (by kernel_rfl) (by kernel_rfl) (by kernel_rfl) (fun _ _ _ h => h) (Or.inl ⟨by rfl, ?_⟩) (by assumption) ?_
        rotate_left
        · intro w hSw; (try dsimp only at hSw); first | (go_simp; done) | (go_simp; with_reducible rfl)
        try simp only [Act.put, List.setIfInBounds_toArray, List.set_cons_zero, List.set_cons_succ]
        refine wpAnyH_take (i := 6) (oi := ⟨_, _, _, _, _, _⟩) (v := ?_) rfl (by kernel_rfl) (by kernel_rfl) (by kernel_rfl) (fun _ _ _ h => h) (Or.inl ⟨by rfl, ?_⟩) (by assumption) ?_
        rotate_left
        · intro w hSw; (try dsimp only at hSw); first | (go_simp; done) | (go_simp; with_reducible rfl)
        try simp only [Act.put, List.setIfInBounds_toArray, List.set_cons_zero, List.set_cons_succ]
        refine wpAnyH_take (i := 7) (oi := ⟨_, _, _, _, _, _⟩) (v := ?_) rfl (by kernel_rfl) (by kernel_rfl) (by kernel_rfl) (fun _ _ _ h => h) (Or.inl ⟨by rfl, ?_⟩) (by assumption) ?_
        rotate_left
        · intro w hSw; (try dsimp only at hSw); first | (go_simp; done) | (go_simp; with_reducible rfl)
        try simp only [Act.put, List.setIfInBounds_toArray, List.set_cons_zero, List.set_cons_succ]
        refine wpAnyH_take (i := 8) (oi := ⟨_, _, _, _, _, _⟩) (v := ?_) rfl (by kernel_rfl) (by kernel_rfl) (by kernel_rfl) (fun _ _ _ h => h) (Or.inl ⟨by rfl, ?_⟩) (by assumption) ?_
        rotate_left
        · intro w hSw; (try dsimp only at hSw); first | (go_simp; done) | (go_simp; with_reducible rfl)
        try simp only [Act.put, List.setIfInBounds_toArray, List.set_cons_zero, List.set_cons_succ]
        refine wpAnyH_take (i := 9) (oi := ⟨_, _, _, _, _, _⟩) (v := ?_) rfl (by kernel_rfl) (by kernel_rfl) (by kernel_rfl) (fun _ _ _ h => h) (Or.inl ⟨by rfl, ?_⟩) (by assumption) ?_
        rotate_left
        · intro w hSw; (try dsimp only at hSw); first | (go_simp; done) | (go_simp; with_reducible rfl)
        try simp only [Act.put, List.setIfInBounds_toArray, List.set_cons_zero, List.set_cons_succ]
        refine wpAnyH_take (i := 10) (oi := ⟨_, _, _, _, _, _⟩) (v := ?_) rfl (by kernel_rfl) (by kernel_rfl) (by kernel_rfl) (fun _ _ _ h => h) (Or.inl ⟨by rfl, ?_⟩) (by assumption) ?_
        rotate_left
        · intro w hSw; (try dsimp only at hSw); first | (go_simp; done) | (go_simp; with_reducible rfl)
        try simp only [Act.put, List.setIfInBounds_toArray, List.set_cons_zero, List.set_cons_succ]
        refine wpAnyH_take (i := 11) (oi := ⟨_, _, _, _, _, _⟩) (v := ?_) rfl (by kernel_rfl) (by kernel_rfl) (by kernel_rfl) (fun _ _ _ h => h) (Or.inl ⟨by rfl, ?_⟩) (by assumption) ?_
        rotate_left
        · intro w hSw; (try dsimp only at hSw); first | (go_simp; done) | (go_simp; with_reducible rfl)
        try simp only [Act.put, List.setIfInBounds_toArray, List.set_cons_zero, List.set_cons_succ]
        refine wpAnyH_take (i := 12) (oi := ⟨_, _, _, _, _, _⟩) (v := ?_) rfl (by kernel_rfl) (by kernel_rfl) (by kernel_rfl) (fun _ _ _ h => h) (Or.inl ⟨by rfl, ?_⟩) (by assumption) ?_
        rotate_left
        · intro w hSw; (try dsimp only at hSw); first | (go_simp; done) | (go_simp; with_reducible rfl)
        try simp only [Act.put, List.setIfInBounds_toArray, List.set_cons_zero, List.set_cons_succ]
        refine wpAnyH_take (i := 13) (oi := ⟨_, _, _, _, _, _⟩) (v := ?_) rfl (by kernel_rfl) (by kernel_rfl) (by kernel_rfl) (fun _ _ _ h => h) (Or.inl ⟨by rfl, ?_⟩) (by assumption) ?_
        rotate_left
        · intro w hSw; (try dsimp only at hSw); first | (go_simp; done) | (go_simp; with_reducible rfl)
        try simp only [Act.put, List.setIfInBounds_toArray, List.set_cons_zero, List.set_cons_succ]
        refine wpAnyH_take (i := 14) (oi := ⟨_, _, _, _, _, _⟩) (v := ?_) rfl (by kernel_rfl) (by kernel_rfl) (by kernel_rfl) (fun _ _ _ h => h) (Or.inl ⟨by rfl, ?_⟩) (by assumption) ?_
        rotate_left
        · intro w hSw; (try dsimp only at hSw); first | (go_simp; done) | (go_simp; with_reducible rfl)
        try simp only [Act.put, List.setIfInBounds_toArray, List.set_cons_zero, List.set_cons_succ]
        refine wpAnyH_take (i := 15) (oi := ⟨_, _, _, _, _, _⟩) (v := ?_) rfl (by kernel_rfl) (by kernel_rfl) (by kernel_rfl) (fun _ _ _ h => h) (Or.inl ⟨by rfl, ?_⟩) (by assumption) ?_
        rotate_left
        · intro w hSw; (try dsimp only at hSw); first | (go_simp; done) | (go_simp; with_reducible rfl)
        try simp only [Act.put, List.setIfInBounds_toArray, List.set_cons_zero, List.set_cons_succ]
        refine wpAnyH_take (i := 16) (oi := ⟨_, _, _, _, _, _⟩) (v := ?_) rfl (by kernel_rfl) (by kernel_rfl) (by kernel_rfl) (fun _ _ _ h => h) (Or.inl ⟨by rfl, ?_⟩) (by assumption) ?_
        rotate_left
        · intro w hSw; (try dsimp only at hSw); first | (go_simp; done) | (go_simp; with_reducible rfl)
        try simp only [Act.put, List.setIfInBounds_toArray, List.set_cons_zero, List.set_cons_succ]
        refine wpAnyH_ready (rs := [17]) (by kernel_rfl) (by simp) ?_
        refine AllReadyH.cons (o := ⟨_, _, _, _, _, _⟩) rfl (fun K hK => ?_) AllReadyH.nil
        go_simp
        refine any_step (fun weB hNB => ?_)
        have SRC : Hid (Src Try.prog 4 63 (.slice (some ⟨wdB.heap.size, 0, none⟩) 1 1) 1 [.int .i64 0, .slice pB1 cBa.length qB1, .slice pB2 cBb.length qB2, .slice pB3 cBc.length qB3] weB) := Lib.hid (by rw [hNB]; exact srcQ_one _ _ _ _ _ _ _ _ _ _ _)
        have HEQB := Lib.hid hNB
        have OWE : Hid (weB.ownsRow w2.heap.size 100 4 (.slice fAa bA.length fAc) bA.length cssA.flatten) := Lib.hid (by rw [hNB]; exact World.ownsRow.alloc HOD.out.own _)
        have hse : w2.heap.size ≤ weB.heap.size := by rw [hNB]; simp; omega
        obtain ⟨qe, hqe⟩ : ∃ q, wdB.heap.size = q := ⟨_, rfl⟩
        rw [hqe] at SRC ⊢
        clear hNB hqe
        try go_wp2_with fail
        refine hK.out _ _ (by trivial) (fun hHeld => ?_)
        clear hK K
        try simp only [Act.put, List.setIfInBounds_toArray, List.set_cons_zero, List.set_cons_succ]
        refine wpAnyH_ready (rs := [18]) (by kernel_rfl) (by simp) ?_
        refine AllReadyH.cons (o := ⟨_, _, _, _, _, _⟩) rfl (fun K hK => ?_) AllReadyH.nil
        refine step_own_src _ rfl _ _ 63 63 (by rfl) w2.heap.size 100 j0 (.agg #[.int .i64 0, .slice none 0 0, .slice none 0 0, .slice none 0 0]) 4 80 Try.underlying63 hj hy0 hy1 hy2 rfl (by decide) _ _ _ (by rfl) OWE.out _ _ _ (by rfl) SRC.out (by unfold maxLen; omega) (by omega) hse ?_
        intro vB wB hown hgr
        rw [HEQB.out] at hgr
        have HWB : Hid (Below w2.heap.size w2 wB) := Lib.hid ((HwdB.out.alloc hsd _).grown hgr.gb (by simp; omega) (fun q hq => (World.ownsRow.lt HOD.out.own q hq).1))
        have KK : ∀ q, q < w.heap.size → ((True ∧ q < (wdB.alloc (.cells #[.int .i64 0, .slice pB1 cBa.length qB1, .slice pB2 cBb.length qB2, .slice pB3 cBc.length qB3] 100)).heap.size ∧ (Value.slice fAa bA.length fAc).ownBlock ≠ some q) ∧ (wdB.alloc (.cells #[.int .i64 0, .slice pB1 cBa.length qB1, .slice pB2 cBb.length qB2, .slice pB3 cBc.length qB3] 100)).heap[q]? = w.heap[q]?) := fun q hq => by
          have h2 := B2.out.size
          exact ⟨⟨trivial, by simp; omega, fun e => by have := (World.ownsRow.lt HOD.out.own q e).1; omega⟩, (Below.heap_alloc _ _ _ (by omega)).trans ((HwdB.out.block q (by omega)).trans (B2.out.block q hq))⟩
        have HOB := Lib.hid (HOD.out.push part_keeps (fun q hq _ => Below.heap_alloc _ _ _ hq) (by simp) hgr rfl (fun u hu => by simp at hu; rcases hu with rfl | rfl | rfl | rfl <;> rfl) hown (e := (⟨0, cBa, cBb, cBc⟩ : PartN (List UInt8))) ⟨_, _, _, rfl, TB1.out.kept (fun q hq => KK q (HS.out q hq)), TB2.out.kept (fun q hq => KK q (HT.out q hq)), TB3.out.kept (fun q hq => KK q (HR3.out q hq))⟩)
        obtain ⟨bB, hb0⟩ : ∃ z, bA ++ [(⟨0, cBa, cBb, cBc⟩ : PartN (List UInt8))] = z := ⟨_, rfl⟩
        rw [hb0] at HOB
        have HEB := Lib.hid hb0
        have bBl : bB.length ≤ 2 * n + 2 := by rw [← hb0]; simp; omega
        clear hb0
        obtain ⟨fBa, fBc, rfl⟩ := ownR_slice HOB.out
        clear hown hgr KK HOD HwdB OWE SRC HEQB TB1 TB2 TB3 hse
        refine hK.out _ _ (by trivial) (fun hHeld => ?_)
        clear hK K
        try simp only [Act.put, List.setIfInBounds_toArray, List.set_cons_zero, List.set_cons_succ]
        refine wpAnyH_take (i := 19) (oi := ⟨_, _, _, _, _, _⟩) (v := ?_) rfl (by kernel_rfl) (by kernel_rfl) (by kernel_rfl) (fun _ _ _ h => h) (Or.inl ⟨by rfl, ?_⟩) (by assumption) ?_
        rotate_left
        · intro w hSw; (try dsimp only at hSw); first | (go_simp; done) | (go_simp; with_reducible rfl)
        try simp only [Act.put, List.setIfInBounds_toArray, List.set_cons_zero, List.set_cons_succ]
        refine wpAnyH_done (by kernel_rfl) ?_ _
        clear hHeld
        obtain ⟨cssB, HO⟩ : ∃ cs, Hid (OwnR partRel 100 4 (fun _ => True) wB w2.heap.size (.slice fBa bB.length fBc) cs bB) := ⟨_, HOB⟩
        have HW := HWB
        clear HOB HWB
        have HN : Hid (AllSt a b c P1 P2 ALL (n + 1) (n + 1) (x + 1) (y + 1) bB) := Lib.hid (by
          have h := HS2.out
          rw [KA1.out, KA2.out, KA3.out] at h
          have k1 := KB1.out
          have k2 := KB2.out
          have k3 := KB3.out
          rw [Nat.add_sub_cancel_left] at k1 k2 k3
          rw [k1, k2, k3] at h
          rw [← HEB.out, ← HEA.out, List.append_assoc]; exact h)
        clear KA1 KA2 KA3 KB1 KB2 KB3 HEA HEB HS2 rA1 rA2 rA3 rB1 rB2 rB3
        go_wp2_with fail
        go_roundw
        case rel => exact ⟨n + 1, n + 1, x + 1, y + 1, _, bB, by omega, by go_num, by go_num, by go_num, by go_num, by omega, by omega, by omega, by omega, HN, HO, HW⟩
        case measure => simp [intOf]; omega
    · by_cases heq : n = a.length
      · have hst := hSt.out
        rw [heq] at hst
        obtain ⟨s1, s2, s3, hS2⟩ := all_last hst
        have HS2 := Lib.hid hS2
        have hsn : i ≤ n := by omega
        clear hst hS2 hSt
        have HNN := Lib.hid heq
        have hna : n ≤ a.length := by omega
        have hnb : ¬ (n < a.length) := by omega
        clear heq
        obtain ⟨pC1, qC1, rC1, tC1⟩ := HA.out.cut (lo := i) (hi := n) (by omega) (by omega)
        obtain ⟨cCa, hCa⟩ : ∃ z_, (a.drop (i)).take (n - (i)) = z_ := ⟨_, rfl⟩
        rw [hCa] at rC1 tC1
        skip
        have TC1 := Lib.hid tC1
        have KC1 := Lib.hid hCa
        clear tC1 hCa
        obtain ⟨pC2, qC2, rC2, tC2⟩ := HB.out.cut (lo := j) (hi := b.length) (by omega) (by omega)
        obtain ⟨cCb, hCb⟩ : ∃ z_, (b.drop (j)).take (b.length - (j)) = z_ := ⟨_, rfl⟩
        rw [hCb] at rC2 tC2
        skip
        have TC2 := Lib.hid tC2
        have KC2 := Lib.hid hCb
        clear tC2 hCb
        obtain ⟨pC3, qC3, rC3, tC3⟩ := HC.out.cut (lo := k) (hi := c.length) (by omega) (by omega)
        obtain ⟨cCc, hCc⟩ : ∃ z_, (c.drop (k)).take (c.length - (k)) = z_ := ⟨_, rfl⟩
        rw [hCc] at rC3 tC3
        skip
        have TC3 := Lib.hid tC3
        have KC3 := Lib.hid hCc
        clear tC3 hCc
        obtain ⟨ora, orc, rfl⟩ := ownR_slice HO.out
        go_upto_region 16 with fail
        refine wp_region_held_drew (S := (fun _ => True)) (by kernel_rfl) (by trivial) (fun hHeld => ?_)
        have HOD := Lib.hid (OwnR_drewN part_keeps HO.out 1)
        have HwdC := Lib.hid (HW.out.trans (drewn _ wr 1))
        clear HO HW
        change Hid (OwnR _ _ _ _ wr.drew _ _ _ _) at HOD
        change Hid (Below _ _ wr.drew) at HwdC
        generalize wr.drew = wdC at *
        have hsd := HwdC.out.size
        refine wpAnyH_take (i := 0) (oi := ⟨_, _, _, _, _, _⟩) (v := ?_) rfl (by kernel_rfl) (by kernel_rfl) (by kernel_rfl) (fun _ _ _ h => h) (Or.inl ⟨by rfl, ?_⟩) (by assumption) ?_
        rotate_left
        · intro w hSw; (try dsimp only at hSw); first | (go_simp; done) | (go_simp; with_reducible rfl)
        try simp only [Act.put, List.setIfInBounds_toArray, List.set_cons_zero, List.set_cons_succ]
        refine wpAnyH_take (i := 1) (oi := ⟨_, _, _, _, _, _⟩) (v := ?_) rfl (by kernel_rfl) (by kernel_rfl) (by kernel_rfl) (fun _ _ _ h => h) (Or.inl ⟨by rfl, ?_⟩) (by assumption) ?_
        rotate_left
        · intro w hSw; (try dsimp only at hSw); first | (go_simp; done) | (go_simp; with_reducible rfl)
        try simp only [Act.put, List.setIfInBounds_toArray, List.set_cons_zero, List.set_cons_succ]
        refine wpAnyH_take (i := 2) (oi := ⟨_, _, _, _, _, _⟩) (v := ?_) rfl (by kernel_rfl) (by kernel_rfl) (by kernel_rfl) (fun _ _ _ h => h) (Or.inl ⟨by rfl, ?_⟩) (by assumption) ?_
        rotate_left
        · intro w hSw; (try dsimp only at hSw); first | (go_simp; done) | (go_simp; with_reducible rfl)
        try simp only [Act.put, List.setIfInBounds_toArray, List.set_cons_zero, List.set_cons_succ]
        refine wpAnyH_take (i := 3) (oi := ⟨_, _, _, _, _, _⟩) (v := ?_) rfl (by kernel_rfl) (by kernel_rfl) (by kernel_rfl) (fun _ _ _ h => h) (Or.inl ⟨by rfl, ?_⟩) (by assumption) ?_
        rotate_left
        · intro w hSw; (try dsimp only at hSw); first | (go_simp; done) | (go_simp; with_reducible rfl)
        try simp only [Act.put, List.setIfInBounds_toArray, List.set_cons_zero, List.set_cons_succ]
        refine wpAnyH_take (i := 4) (oi := ⟨_, _, _, _, _, _⟩) (v := ?_) rfl (by kernel_rfl) (by kernel_rfl) (by kernel_rfl) (fun _ _ _ h => h) (Or.inl ⟨by rfl, ?_⟩) (by assumption) ?_
        rotate_left
        · intro w hSw; (try dsimp only at hSw); first | (go_simp; done) | (go_simp; with_reducible rfl)
        try simp only [Act.put, List.setIfInBounds_toArray, List.set_cons_zero, List.set_cons_succ]
        refine wpAnyH_take (i := 5) (oi := ⟨_, _, _, _, _, _⟩) (v := ?_) rfl (by kernel_rfl) (by kernel_rfl) (by kernel_rfl) (fun _ _ _ h => h) (Or.inl ⟨by rfl, ?_⟩) (by assumption) ?_
        rotate_left
        · intro w hSw; (try dsimp only at hSw); first | (go_simp; done) | (go_simp; with_reducible rfl)
        try simp only [Act.put, List.setIfInBounds_toArray, List.set_cons_zero, List.set_cons_succ]
        refine wpAnyH_take (i := 6) (oi := ⟨_, _, _, _, _, _⟩) (v := ?_) rfl (by kernel_rfl) (by kernel_rfl) (by kernel_rfl) (fun _ _ _ h => h) (Or.inl ⟨by rfl, ?_⟩) (by assumption) ?_
        rotate_left
        · intro w hSw; (try dsimp only at hSw); first | (go_simp; done) | (go_simp; with_reducible rfl)
        try simp only [Act.put, List.setIfInBounds_toArray, List.set_cons_zero, List.set_cons_succ]
        refine wpAnyH_take (i := 7) (oi := ⟨_, _, _, _, _, _⟩) (v := ?_) rfl (by kernel_rfl) (by kernel_rfl) (by kernel_rfl) (fun _ _ _ h => h) (Or.inl ⟨by rfl, ?_⟩) (by assumption) ?_
        rotate_left
        · intro w hSw; (try dsimp only at hSw); first | (go_simp; done) | (go_simp; with_reducible rfl)
        try simp only [Act.put, List.setIfInBounds_toArray, List.set_cons_zero, List.set_cons_succ]
        refine wpAnyH_take (i := 8) (oi := ⟨_, _, _, _, _, _⟩) (v := ?_) rfl (by kernel_rfl) (by kernel_rfl) (by kernel_rfl) (fun _ _ _ h => h) (Or.inl ⟨by rfl, ?_⟩) (by assumption) ?_
        rotate_left
        · intro w hSw; (try dsimp only at hSw); first | (go_simp; done) | (go_simp; with_reducible rfl)
        try simp only [Act.put, List.setIfInBounds_toArray, List.set_cons_zero, List.set_cons_succ]
        refine wpAnyH_take (i := 9) (oi := ⟨_, _, _, _, _, _⟩) (v := ?_) rfl (by kernel_rfl) (by kernel_rfl) (by kernel_rfl) (fun _ _ _ h => h) (Or.inl ⟨by rfl, ?_⟩) (by assumption) ?_
        rotate_left
        · intro w hSw; (try dsimp only at hSw); first | (go_simp; done) | (go_simp; with_reducible rfl)
        try simp only [Act.put, List.setIfInBounds_toArray, List.set_cons_zero, List.set_cons_succ]
        refine wpAnyH_take (i := 10) (oi := ⟨_, _, _, _, _, _⟩) (v := ?_) rfl (by kernel_rfl) (by kernel_rfl) (by kernel_rfl) (fun _ _ _ h => h) (Or.inl ⟨by rfl, ?_⟩) (by assumption) ?_
        rotate_left
        · intro w hSw; (try dsimp only at hSw); first | (go_simp; done) | (go_simp; with_reducible rfl)
        try simp only [Act.put, List.setIfInBounds_toArray, List.set_cons_zero, List.set_cons_succ]
        refine wpAnyH_take (i := 11) (oi := ⟨_, _, _, _, _, _⟩) (v := ?_) rfl (by kernel_rfl) (by kernel_rfl) (by kernel_rfl) (fun _ _ _ h => h) (Or.inl ⟨by rfl, ?_⟩) (by assumption) ?_
        rotate_left
        · intro w hSw; (try dsimp only at hSw); first | (go_simp; done) | (go_simp; with_reducible rfl)
        try simp only [Act.put, List.setIfInBounds_toArray, List.set_cons_zero, List.set_cons_succ]
        refine wpAnyH_take (i := 12) (oi := ⟨_, _, _, _, _, _⟩) (v := ?_) rfl (by kernel_rfl) (by kernel_rfl) (by kernel_rfl) (fun _ _ _ h => h) (Or.inl ⟨by rfl, ?_⟩) (by assumption) ?_
        rotate_left
        · intro w hSw; (try dsimp only at hSw); first | (go_simp; done) | (go_simp; with_reducible rfl)
        try simp only [Act.put, List.setIfInBounds_toArray, List.set_cons_zero, List.set_cons_succ]
        refine wpAnyH_take (i := 13) (oi := ⟨_, _, _, _, _, _⟩) (v := ?_) rfl (by kernel_rfl) (by kernel_rfl) (by kernel_rfl) (fun _ _ _ h => h) (Or.inl ⟨by rfl, ?_⟩) (by assumption) ?_
        rotate_left
        · intro w hSw; (try dsimp only at hSw); first | (go_simp; done) | (go_simp; with_reducible rfl)
        try simp only [Act.put, List.setIfInBounds_toArray, List.set_cons_zero, List.set_cons_succ]
        refine wpAnyH_ready (rs := [14]) (by kernel_rfl) (by simp) ?_
        refine AllReadyH.cons (o := ⟨_, _, _, _, _, _⟩) rfl (fun K hK => ?_) AllReadyH.nil
        go_simp
        refine any_step (fun weC hNC => ?_)
        have SRC : Hid (Src Try.prog 4 63 (.slice (some ⟨wdC.heap.size, 0, none⟩) 1 1) 1 [.int .i64 0, .slice pC1 cCa.length qC1, .slice pC2 cCb.length qC2, .slice pC3 cCc.length qC3] weC) := Lib.hid (by rw [hNC]; exact srcQ_one _ _ _ _ _ _ _ _ _ _ _)
        have HEQC := Lib.hid hNC
        have OWE : Hid (weC.ownsRow w2.heap.size 100 4 (.slice ora bs.length orc) bs.length css.flatten) := Lib.hid (by rw [hNC]; exact World.ownsRow.alloc HOD.out.own _)
        have hse : w2.heap.size ≤ weC.heap.size := by rw [hNC]; simp; omega
        obtain ⟨qe, hqe⟩ : ∃ q, wdC.heap.size = q := ⟨_, rfl⟩
        rw [hqe] at SRC ⊢
        clear hNC hqe
        try go_wp2_with fail
        refine hK.out _ _ (by trivial) (fun hHeld => ?_)
        clear hK K
        try simp only [Act.put, List.setIfInBounds_toArray, List.set_cons_zero, List.set_cons_succ]
        refine wpAnyH_ready (rs := [15]) (by kernel_rfl) (by simp) ?_
        refine AllReadyH.cons (o := ⟨_, _, _, _, _, _⟩) rfl (fun K hK => ?_) AllReadyH.nil
        refine step_own_src _ rfl _ _ 63 63 (by rfl) w2.heap.size 100 j0 (.agg #[.int .i64 0, .slice none 0 0, .slice none 0 0, .slice none 0 0]) 4 80 Try.underlying63 hj hy0 hy1 hy2 rfl (by decide) _ _ _ (by rfl) OWE.out _ _ _ (by rfl) SRC.out (by unfold maxLen; omega) (by omega) hse ?_
        intro vC wC hown hgr
        rw [HEQC.out] at hgr
        have HWC : Hid (Below w2.heap.size w2 wC) := Lib.hid ((HwdC.out.alloc hsd _).grown hgr.gb (by simp; omega) (fun q hq => (World.ownsRow.lt HOD.out.own q hq).1))
        have KK : ∀ q, q < w.heap.size → ((True ∧ q < (wdC.alloc (.cells #[.int .i64 0, .slice pC1 cCa.length qC1, .slice pC2 cCb.length qC2, .slice pC3 cCc.length qC3] 100)).heap.size ∧ (Value.slice ora bs.length orc).ownBlock ≠ some q) ∧ (wdC.alloc (.cells #[.int .i64 0, .slice pC1 cCa.length qC1, .slice pC2 cCb.length qC2, .slice pC3 cCc.length qC3] 100)).heap[q]? = w.heap[q]?) := fun q hq => by
          have h2 := B2.out.size
          exact ⟨⟨trivial, by simp; omega, fun e => by have := (World.ownsRow.lt HOD.out.own q e).1; omega⟩, (Below.heap_alloc _ _ _ (by omega)).trans ((HwdC.out.block q (by omega)).trans (B2.out.block q hq))⟩
        have HOC := Lib.hid (HOD.out.push part_keeps (fun q hq _ => Below.heap_alloc _ _ _ hq) (by simp) hgr rfl (fun u hu => by simp at hu; rcases hu with rfl | rfl | rfl | rfl <;> rfl) hown (e := (⟨0, cCa, cCb, cCc⟩ : PartN (List UInt8))) ⟨_, _, _, rfl, TC1.out.kept (fun q hq => KK q (HS.out q hq)), TC2.out.kept (fun q hq => KK q (HT.out q hq)), TC3.out.kept (fun q hq => KK q (HR3.out q hq))⟩)
        obtain ⟨bC, hb0⟩ : ∃ z, bs ++ [(⟨0, cCa, cCb, cCc⟩ : PartN (List UInt8))] = z := ⟨_, rfl⟩
        rw [hb0] at HOC
        have HEC := Lib.hid hb0
        have bCl : bC.length ≤ 2 * n + 1 := by rw [← hb0]; simp; omega
        clear hb0
        obtain ⟨fCa, fCc, rfl⟩ := ownR_slice HOC.out
        clear hown hgr KK HOD HwdC OWE SRC HEQC TC1 TC2 TC3 hse
        refine hK.out _ _ (by trivial) (fun hHeld => ?_)
        clear hK K
        try simp only [Act.put, List.setIfInBounds_toArray, List.set_cons_zero, List.set_cons_succ]
        refine wpAnyH_take (i := 16) (oi := ⟨_, _, _, _, _, _⟩) (v := ?_) rfl (by kernel_rfl) (by kernel_rfl) (by kernel_rfl) (fun _ _ _ h => h) (Or.inl ⟨by rfl, ?_⟩) (by assumption) ?_
        rotate_left
        · intro w hSw; (try dsimp only at hSw); first | (go_simp; done) | (go_simp; with_reducible rfl)
        try simp only [Act.put, List.setIfInBounds_toArray, List.set_cons_zero, List.set_cons_succ]
        refine wpAnyH_done (by kernel_rfl) ?_ _
        clear hHeld
        obtain ⟨cssC, HO⟩ : ∃ cs, Hid (OwnR partRel 100 4 (fun _ => True) wC w2.heap.size (.slice fCa bC.length fCc) cs bC) := ⟨_, HOC⟩
        have HW := HWC
        clear HOC HWC
        have HN : Hid (AllSt a b c P1 P2 ALL (n + 1) (n + 1) (b.length + 1) (c.length + 1) bC) := Lib.hid (by
          have h := HS2.out
          rw [← HNN.out, KC1.out, KC2.out, KC3.out] at h
          rw [← HEC.out]; exact h)
        clear KC1 KC2 KC3 HEC HS2 rC1 rC2 rC3
        go_wp2_with fail
        go_roundw
        case rel => exact ⟨n + 1, n + 1, b.length + 1, c.length + 1, _, bC, by omega, by go_num, by go_num, by go_num, by go_num, by omega, by omega, by omega, by omega, HN, HO, HW⟩
        case measure => simp [intOf]; omega
      · have HALL := Lib.hid (all_done hSt.out (by omega))
        obtain ⟨lra, lrc, rfl⟩ := ownR_slice HO.out
        clear hSt
        have HPC := Lib.hid ((HO.out.rows part_keeps).kept part_keeps (S' := fun k => k < wr.heap.size) (w' := wr) (fun q hq => ⟨hq.2, rfl⟩))
        have HBW := Lib.hid (B2.out.trans (HW.out.mono B2.out.size))
        have hbl3 : bs.length ≤ 2097154 := by omega
        have hgt : ¬ (n ≤ a.length) := by omega
        clear HO HW Q1 Q2 hxi hxj hxk hn hlt heq hbl2 hpl1 hpl2
        generalize wr = w3 at *
        go_wp2_with fail
        go_loopw [19, 20] (fun l n wr => ∃ (k : Nat) (css : List (List Value)) (os : List (PartN (List UInt8))), k ≤ bs.length ∧ n = .int .i64 k ∧ os.length ≤ k ∧ Hid ((ALL.take k).foldl putN [] = os) ∧ Hid (OwnR partRel 100 4 (fun _ => True) wr w3.heap.size l css os) ∧ Hid (Below w3.heap.size w3 wr)) (fun _ n _ => bs.length - (intOf n).toNat)
        case atStart => exact ⟨0, [], [], Nat.zero_le _, rfl, Nat.le_refl _, Lib.hid rfl, Lib.hid (OwnR.nil _ _ _ _ _ _), Lib.hid (Below.refl _ _)⟩
        case round =>
          obtain ⟨k, cso, os, hk, rfl, hol, hE, HO, HW⟩ := hrel
          obtain ⟨ora, orc, rfl⟩ := ownR_slice HO.out
          by_cases hlt : k < bs.length
          · obtain ⟨p, hp⟩ : ∃ p, ALL[k]? = some p := by
              have : k < ALL.length := by rw [HALL.out] at hlt; simpa using hlt
              exact ⟨_, List.getElem?_eq_getElem this⟩
            have hbk : bs[k]? = some (bareN p) := by rw [HALL.out]; simp [hp]
            obtain ⟨g, og, rfl, hgS, hgc, hgd, hcs⟩ := part_at (HPC.out.kept part_keeps (S' := fun k => k < w3.heap.size) (w' := wr) (fun q hq => ⟨hq, HW.out.block q hq⟩)) (by omega)
            obtain ⟨a1, c1, a2, c2, a3, c3, e0, e1, e2, e3, r1, r2, r3⟩ := hcs k _ hbk
            have hkd := HKD.out p (List.mem_of_getElem? hp)
            obtain ⟨n1, n2, n3⟩ := HFL.out p (List.mem_of_getElem? hp)
            have hts : (ALL.take (k + 1)).foldl putN [] = putN os p := by
              rw [List.take_add_one, hp, List.foldl_append, hE.out]; rfl
            have HTS := Lib.hid hts
            have HGD := Lib.hid (HGO.out k)
            have HOB := Lib.hid (HOL.out k)
            rw [hE.out] at HGD HOB
            have hsz := HW.out.size
            obtain ⟨kd, l1, l2, l3⟩ := p
            simp only [bareN] at e0 e1 e2 e3 r1 r2 r3 hkd n1 n2 n3
            have HKDD := Lib.hid hkd
            have R1 := Lib.hid (r1.kept (S' := fun k => k < w3.heap.size) (w' := w3) (fun q hq => ⟨hq, (HW.out.block q hq).symm⟩))
            have R2 := Lib.hid (r2.kept (S' := fun k => k < w3.heap.size) (w' := w3) (fun q hq => ⟨hq, (HW.out.block q hq).symm⟩))
            have R3 := Lib.hid (r3.kept (S' := fun k => k < w3.heap.size) (w' := w3) (fun q hq => ⟨hq, (HW.out.block q hq).symm⟩))
            have W2 : Hid (Below w3.heap.size w3 (wr.alloc (.cells #[.int .i64 0, .slice a1 l1.length c1, .slice a2 l2.length c2, .slice a3 l3.length c3] 100))) := Lib.hid (HW.out.alloc hsz _)
            have HBX := Lib.hid (new_five wr #[.int .i64 0, .slice a1 l1.length c1, .slice a2 l2.length c2, .slice a3 l3.length c3] 100)
            have HK2 : Hid (∀ q, q < wr.heap.size → (wr.alloc (.cells #[.int .i64 0, .slice a1 l1.length c1, .slice a2 l2.length c2, .slice a3 l3.length c3] 100)).heap[q]? = wr.heap[q]?) := Lib.hid (fun q hq => Below.heap_alloc _ _ _ hq)
            have hlt2 : wr.heap.size < (wr.alloc (.cells #[.int .i64 0, .slice a1 l1.length c1, .slice a2 l2.length c2, .slice a3 l3.length c3] 100)).heap.size := by simp
            clear hcs hp hbk hts r1 r2 r3 hkd hE
            go_upto_region 25 with fail
            clear e0 e1 e2 e3
            generalize wr.alloc (.cells #[.int .i64 0, .slice a1 l1.length c1, .slice a2 l2.length c2, .slice a3 l3.length c3] 100) = wp at *
            obtain ⟨pb, hpb⟩ : ∃ pb, wr.heap.size = pb := ⟨_, rfl⟩
            rw [hpb] at HBX HK2 hlt2 ⊢
            have HPB := Lib.hid hpb
            clear hpb
            obtain ⟨b0, b1, b2, b3⟩ := box4 HBX.out rfl
            by_cases hz : l1 = [] ∧ l2 = [] ∧ l3 = []
            · have HOS := Lib.hid (OwnR_on part_keeps HO.out (w' := wp) (by rw [HPB.out]; omega) (fun q hq => HK2.out q (by rw [← HPB.out]; exact hq)))
              have hz1 : l1.length = 0 := by rw [hz.1]; rfl
              have hz2 : l2.length = 0 := by rw [hz.2.1]; rfl
              have hz3 : l3.length = 0 := by rw [hz.2.2]; rfl
              have HSUM : ((l1.length : Int) + (l2.length : Int) + (l3.length : Int) == 0) = true := by rw [beq_iff_eq]; omega
              have HPUT : Hid (putN os (⟨kd, l1, l2, l3⟩ : PartN (List UInt8)) = os) := Lib.hid (by unfold putN; rw [if_pos hz])
              clear hz hz1 hz2 hz3 HO HGD HOB
              go_wp2_with fail
              go_roundw
              case rel => exact ⟨k + 1, _, os, by omega, by go_num, by omega, Lib.hid (by rw [HTS.out]; exact HPUT.out), HOS, W2⟩
              case measure => simp [intOf]; omega
            · have HSUM : ((l1.length : Int) + (l2.length : Int) + (l3.length : Int) == 0) = false := by
                rw [beq_eq_false_iff_ne]
                intro e
                exact hz ⟨List.length_eq_zero_iff.1 (by omega), List.length_eq_zero_iff.1 (by omega), List.length_eq_zero_iff.1 (by omega)⟩
              have HWAYS := Lib.hid (put_ways (p := (⟨kd, l1, l2, l3⟩ : PartN (List UInt8))) HGD.out HKDD.out hz)
              clear HGD hz
              go_wp2_with fail
              refine (rkind_any _ _ _ _ _ _ l1 l2 l3 wp (R1.out.kept (S' := fun k => k < w3.heap.size) (fun q hq => ⟨hq, W2.out.block q hq⟩)) (R2.out.kept (S' := fun k => k < w3.heap.size) (fun q hq => ⟨hq, W2.out.block q hq⟩)) (R3.out.kept (S' := fun k => k < w3.heap.size) (fun q hq => ⟨hq, W2.out.block q hq⟩)) (by omega) (by omega) (by omega)).mono ?_
              rintro e w5 ⟨rfl, m5, rfl⟩
              rw [show kindN l1 l2 l3 = kd from HKDD.out.symm]
              have HBD : Hid ((wp.drewN m5).heap[pb]? = some (.cells #[.int .i64 0, .slice a1 l1.length c1, .slice a2 l2.length c2, .slice a3 l3.length c3] 100 (0, 0))) := Lib.hid HBX.out
              have BDD := Lib.hid (W2.out.trans (drewn _ wp m5))
              have HKD2 : Hid (∀ q, q < pb → (wp.drewN m5).heap[q]? = wr.heap[q]?) := Lib.hid (fun q hq => HK2.out q hq)
              have hlt3 : pb < (wp.drewN m5).heap.size := hlt2
              clear b0 b1 b2 b3 HBX W2 HK2 hlt2
              generalize wp.drewN m5 = wd at *
              obtain ⟨b0, b1, b2, b3⟩ := box4 HBD.out rfl
              have z0 := frozen_box HBD.out 0
              have BS : Hid (Below w3.heap.size w3 (wd.setCell ⟨pb, 0, none⟩ (.int .i64 kd))) := Lib.hid (BDD.out.trans ((Spares.of_set (fun q => q = pb) wd pb 0 (.int .i64 kd) rfl).below (fun q e => by have := HPB.out; omega) BDD.out.size))
              have HSQ : Hid (∀ q, q < pb → (wd.setCell ⟨pb, 0, none⟩ (.int .i64 kd)).heap[q]? = wr.heap[q]?) := Lib.hid (fun q hq => ((Spares.of_set (fun q => q = pb) wd pb 0 (.int .i64 kd) rfl).block q (by omega) (fun e => by omega)).trans (HKD2.out q hq))
              have y0 : (wd.setCell ⟨pb, 0, none⟩ (.int .i64 kd)).cell? ⟨pb, 0, none⟩ = some (.int .i64 kd) := World.cell?_setCell_same _ _ _ b0
              have y1 : (wd.setCell ⟨pb, 0, none⟩ (.int .i64 kd)).cell? ⟨pb, 1, none⟩ = _ := (World.cell?_setCell_other _ _ _ _ (by simp)).trans b1
              have y2 : (wd.setCell ⟨pb, 0, none⟩ (.int .i64 kd)).cell? ⟨pb, 2, none⟩ = _ := (World.cell?_setCell_other _ _ _ _ (by simp)).trans b2
              have y3 : (wd.setCell ⟨pb, 0, none⟩ (.int .i64 kd)).cell? ⟨pb, 3, none⟩ = _ := (World.cell?_setCell_other _ _ _ _ (by simp)).trans b3
              have hlt4 : pb < (wd.setCell ⟨pb, 0, none⟩ (.int .i64 kd)).heap.size := by simpa using hlt3
              have HS5 := Lib.hid (OwnR_on part_keeps HO.out (w' := wd.setCell ⟨pb, 0, none⟩ (.int .i64 kd)) (by rw [HPB.out]; omega) (fun q hq => HSQ.out q (by rw [← HPB.out]; exact hq)))
              clear HO HKD2 BDD HSUM
              go_upto_region 27 with fail
              clear b0 b1 b2 b3 z0 HBD hlt3
              generalize wd.setCell ⟨pb, 0, none⟩ (.int .i64 kd) = ws at *
              have hss := BS.out.size
              rcases HWAYS.out with ⟨ini, q, ho, hq0, hp0, hput⟩ | ⟨hput, hways⟩
              · have HPUT := Lib.hid hput
                have hp0' : kd = 0 := hp0
                clear hput hp0 HWAYS
                subst hp0'
                subst ho
                obtain ⟨go, cap, d0, d1, d2, d3, hsl, hgB, hgl, hcap1, hcap2, hrel, m0, m1, m2, m3, hfz⟩ := OwnR.last_cells part_keeps HS5.out
                obtain ⟨v1, v2, v3, hcsq, s1, s2, s3⟩ := hrel
                obtain ⟨u1, x1, rfl⟩ := s1.shape
                simp only [List.cons.injEq, and_true] at hcsq
                obtain ⟨rfl, rfl, rfl, rfl⟩ := hcsq
                obtain ⟨rfl, rfl⟩ : ora = some ⟨go, 0, none⟩ ∧ orc = cap := by injection hsl with h1 h2 h3; exact ⟨h1, h3⟩
                have hqb := HOB.out q (by simp)
                rw [hq0] at m0
                have S1 := Lib.hid s1
                have M1 := Lib.hid m1
                have hLl : (ini ++ [q]).length = ini.length + 1 := by simp
                obtain ⟨nI, hnI⟩ : ∃ n, ini.length = n := ⟨_, rfl⟩
                obtain ⟨qk, qb, qo, qt⟩ := q
                simp only at hqb hq0 s1 m0 m1 m2 m3 S1 M1 HPUT
                rw [hLl, hnI]
                rw [hnI] at m0 m1 m2 m3 M1
                have HNI := Lib.hid hnI
                have hIo : nI + 1 ≤ k := by rw [← hnI, ← hLl]; exact hol
                have hIc : nI + 1 ≤ orc := by rw [← hnI, ← hLl]; exact hcap1
                clear hnI hLl hsl s1 s2 s3 hol hcap1
                obtain ⟨nL, hnL⟩ : ∃ n, nI + 1 = n := ⟨_, rfl⟩
                have hL1 : (nL : Int) - 1 = (nI : Int) := by omega
                have hL2 : nI < nL := by omega
                have hL3 : decide ((nI : Int) ≥ 0) = true := by rw [decide_eq_true_eq]; omega
                have hL4 : decide ((0 : Int) ≤ (nI : Int)) = true := by rw [decide_eq_true_eq]; omega
                rw [hnL] at hIo hIc ⊢
                have HNL := Lib.hid hnL
                clear hnL
                have HE0 := Lib.hid (ownS_empty ws)
                have SRC1 : Hid (Src Try.prog 1 24 (.slice u1 qb.length x1) qb.length (sv qb) (ws.alloc (.cells #[] 9))) := Lib.hid (S1.out.kept (S' := fun _ => True) (fun q hq => ⟨trivial, Below.heap_alloc _ _ _ hq.2.1⟩)).src
                have n0 : (ws.alloc (.cells #[] 9)).cell? ⟨go, nI * 4, none⟩ = _ := (World.cell?_of_block (w := ws) (Below.heap_alloc _ _ _ hgl)).trans m0
                have n1' : (ws.alloc (.cells #[] 9)).cell? ⟨go, nI * 4 + 1, none⟩ = _ := (World.cell?_of_block (w := ws) (Below.heap_alloc _ _ _ hgl)).trans m1
                go_wp2_with (at_builtin; refine wpList_own_src _ rfl _ _ 24 24 rfl ws.heap.size 9 i0 (.string ByteArray.empty) 1 16 Try.underlying24 hi hz0 hz1 hz2 rfl (by decide) _ _ _ rfl HE0.out _ qb.length (sv qb) rfl SRC1.out (by unfold maxLen; simp; omega) (by simp; omega) (by simp) ?_)
                intro v7 w7 hown7 hg7
                have O7 : Hid (OwnS w7 ws.heap.size v7 qb) := Lib.hid (by have h := ownS_more (l := []) (r := qb) (by simp) hown7; exact h)
                have B7 : Hid (Below ws.heap.size ws w7) := Lib.hid (((Below.refl ws.heap.size ws).alloc (Nat.le_refl _) _).grown hg7.gb (by simp) (fun q hq => (World.ownsRow.lt HE0.out q hq).1))
                obtain ⟨a7, c7, rfl⟩ := ownS_slice O7.out
                have SRC2 : Hid (Src Try.prog 1 24 (.slice a1 l1.length c1) l1.length (sv l1) w7) := Lib.hid (R1.out.kept (S' := fun _ => True) (fun q hq => ⟨trivial, (B7.out.block q (by omega)).trans (BS.out.block q hq)⟩)).src
                have hs7 := B7.out.size
                have o1 := (B7.out.cell (p := ⟨pb, 1, none⟩) hlt4).trans y1
                clear hown7 hg7 HE0 SRC1 n0 n1' m1 y0 y1 y2 y3
                go_wp2_with (at_builtin; refine wpList_own_src _ rfl _ _ 24 24 rfl ws.heap.size 9 i0 (.string ByteArray.empty) 1 16 Try.underlying24 hi hz0 hz1 hz2 rfl (by decide) _ _ _ rfl O7.out _ l1.length (sv l1) rfl SRC2.out (by unfold maxLen; omega) (by omega) hs7 ?_)
                intro v8 w8 hown8 hg8
                obtain ⟨X, hX⟩ : ∃ X, qb ++ l1 = X := ⟨_, rfl⟩
                have O8 : Hid (OwnS w8 ws.heap.size v8 X) := Lib.hid (by rw [← hX]; exact ownS_more rfl hown8)
                have B8 : Hid (Below ws.heap.size ws w8) := Lib.hid (B7.out.grown hg8.gb hs7 (fun q hq => (World.ownsRow.lt O7.out q hq).1))
                obtain ⟨a8, c8, rfl⟩ := ownS_slice O8.out
                have HX := Lib.hid hX
                have HS8 := Lib.hid (OwnR_on part_keeps HS5.out (w' := w8) B8.out.size (fun q hq => B8.out.block q hq))
                have o0 := (B8.out.cell (p := ⟨go, nI * 4, none⟩) hgl).trans m0
                have o2 : ∃ z, w8.cell? ⟨go, nI * 4 + 1, none⟩ = some z := ⟨_, (B8.out.cell (p := ⟨go, nI * 4 + 1, none⟩) hgl).trans M1.out⟩
                have o3 := (B8.out.cell (p := ⟨go, nI * 4 + 2, none⟩) hgl).trans m2
                have o4 := (B8.out.cell (p := ⟨go, nI * 4 + 3, none⟩) hgl).trans m3
                obtain ⟨zz, o2⟩ := o2
                have f0 : w8.frozen? ⟨go, nI * 4, none⟩ = false := HS8.out.own.frozenAt _
                have f1 : w8.frozen? ⟨go, nI * 4 + 1, none⟩ = false := HS8.out.own.frozenAt _
                have f2 : w8.frozen? ⟨go, nI * 4 + 2, none⟩ = false := HS8.out.own.frozenAt _
                have f3 : w8.frozen? ⟨go, nI * 4 + 3, none⟩ = false := HS8.out.own.frozenAt _
                obtain ⟨css9, hset⟩ := HS8.out.set_last part_keeps (c0 := .int .i64 0) (c1 := .slice a8 X.length c8) (c2 := .slice a8 X.length c8) (c3 := .slice a8 X.length c8) (e := (⟨0, X, X, X⟩ : PartN (List UInt8))) (fun u hu => by simp at hu; rcases hu with rfl | rfl <;> rfl)
                  (by
                    have h8 := (ownS_c O8.out).kept (S' := fun k => True ∧ k < w8.heap.size ∧ k ≠ go) (w' := w8) (fun q hq => ⟨⟨trivial, hq.2, by omega⟩, rfl⟩)
                    exact ⟨_, _, _, rfl, h8, h8, h8⟩)
                have hlen9 : (ini ++ [(⟨0, X, X, X⟩ : PartN (List UInt8))]).length = nL := by rw [List.length_append, HNI.out]; exact HNL.out
                rw [hlen9, HNI.out] at hset
                have hsp := set4at_spares w8 go (nI * 4) (.int .i64 0) (.slice a8 X.length c8) (.slice a8 X.length c8) (.slice a8 X.length c8)
                have hb9 : Below w3.heap.size w3 (set4at w8 go (nI * 4) (.int .i64 0) (.slice a8 X.length c8) (.slice a8 X.length c8) (.slice a8 X.length c8)) := (BS.out.trans (B8.out.mono hss)).trans (hsp.below (fun q e => by omega) (by have := B8.out.size; omega))
                unfold set4at at hset hb9
                have HSET := Lib.hid hset
                have HB9 := Lib.hid hb9
                have HL9 := Lib.hid hlen9
                clear hown8 hg8 SRC2 hX o1 hset hb9 hsp hlen9 m0 m2 m3 B7 O7 HS5 hs7 hfz
                go_wp2_with fail
                go_roundw
                case rel => exact ⟨k + 1, _, ini ++ [⟨0, X, X, X⟩], by omega, by go_num, by rw [HL9.out]; omega, Lib.hid (by rw [HTS.out, HPUT.out]; simp only [HX.out]), HSET, HB9⟩
                case measure => simp [intOf]; omega
              · have HPUT := Lib.hid hput
                clear hput HWAYS
                by_cases hk0 : kd = 0
                · have hkb : (kd == 0) = true := by rw [beq_iff_eq]; exact hk0
                  rcases hways with h | ho | ⟨ini, q, ho, hq0⟩
                  · exact absurd hk0 h
                  · have hm1 : (os.length : Int) - 1 = -1 := by rw [ho]; rfl
                    clear ho hk0
                    go_wp2_with (at_builtin; refine wpList_own_src _ rfl _ _ 63 63 rfl w3.heap.size 100 j0 (.agg #[.int .i64 0, .slice none 0 0, .slice none 0 0, .slice none 0 0]) 4 80 Try.underlying63 hj hy0 hy1 hy2 rfl (by decide) _ _ _ rfl (World.ownsRow.alloc HS5.out.own _) _ 1 [.int .i64 kd, .slice a1 l1.length c1, .slice a2 l2.length c2, .slice a3 l3.length c3] rfl (srcQ_one _ _ _ _ _ _ _ _ _ _ _) (by unfold maxLen; omega) (by omega) (by simp; omega) ?_)
                    intro v9 w9 hown9 hg9
                    have B9 : Hid (Below w3.heap.size w3 w9) := Lib.hid ((BS.out.alloc BS.out.size _).grown hg9.gb (by simp; omega) (fun q hq => (World.ownsRow.lt HS5.out.own q hq).1))
                    have KK : ∀ q, q < w3.heap.size → ((True ∧ q < (ws.alloc (.cells #[.int .i64 kd, .slice a1 l1.length c1, .slice a2 l2.length c2, .slice a3 l3.length c3] 100)).heap.size ∧ (Value.slice ora os.length orc).ownBlock ≠ some q) ∧ (ws.alloc (.cells #[.int .i64 kd, .slice a1 l1.length c1, .slice a2 l2.length c2, .slice a3 l3.length c3] 100)).heap[q]? = w3.heap[q]?) := fun q hq => by
                      exact ⟨⟨trivial, by simp; omega, fun e => by have := (World.ownsRow.lt HS5.out.own q e).1; omega⟩, (Below.heap_alloc _ _ _ (by omega)).trans (BS.out.block q hq)⟩
                    have O9 := Lib.hid (HS5.out.push part_keeps (fun q hq _ => Below.heap_alloc _ _ _ hq) (by simp) hg9 rfl (fun u hu => by simp at hu; rcases hu with rfl | rfl | rfl | rfl <;> rfl) hown9 (e := (⟨kd, l1, l2, l3⟩ : PartN (List UInt8))) ⟨_, _, _, rfl, R1.out.kept (fun q hq => KK q hq), R2.out.kept (fun q hq => KK q hq), R3.out.kept (fun q hq => KK q hq)⟩)
                    clear hown9 hg9 KK
                    go_wp2_with fail
                    go_roundw
                    case rel => exact ⟨k + 1, _, os ++ [⟨kd, l1, l2, l3⟩], by omega, by go_num, by simp; omega, Lib.hid (by rw [HTS.out]; exact HPUT.out), O9, B9⟩
                    case measure => simp [intOf]; omega
                  · obtain ⟨go, cap, d0, d1, d2, d3, hsl, hgB, hgl, hcap1, hcap2, hrel, m0, m1, m2, m3, hfz⟩ := OwnR.last_cells part_keeps (ini := ini) (q := q) (w := ws) (css := cso) (v := .slice ora os.length orc) (by rw [← ho]; exact HS5.out)
                    obtain ⟨v1, v2, v3, hcsq, s1, s2, s3⟩ := hrel
                    simp only [List.cons.injEq, and_true] at hcsq
                    obtain ⟨rfl, rfl, rfl, rfl⟩ := hcsq
                    obtain ⟨rfl, rfl⟩ : ora = some ⟨go, 0, none⟩ ∧ orc = cap := by injection hsl with h1 h2 h3; exact ⟨h1, h3⟩
                    rw [← ho] at hcap1
                    have hLl : os.length = ini.length + 1 := by rw [ho]; simp
                    obtain ⟨nI, hnI⟩ : ∃ n, ini.length = n := ⟨_, rfl⟩
                    rw [hnI] at m0
                    obtain ⟨qk, qb, qo, qt⟩ := q
                    simp only at hq0 m0
                    have hL1 : (os.length : Int) - 1 = (nI : Int) := by omega
                    have hL2 : nI < os.length := by omega
                    have hL3 : decide ((nI : Int) ≥ 0) = true := by rw [decide_eq_true_eq]; omega
                    have hL4 : decide ((0 : Int) ≤ (nI : Int)) = true := by rw [decide_eq_true_eq]; omega
                    have hqb1 : (qk == 0) = false := by rw [beq_eq_false_iff_ne]; exact hq0
                    clear hnI hLl hsl s1 s2 s3 m1 m2 m3 hfz ho hk0 hq0
                    go_wp2_with (at_builtin; refine wpList_own_src _ rfl _ _ 63 63 rfl w3.heap.size 100 j0 (.agg #[.int .i64 0, .slice none 0 0, .slice none 0 0, .slice none 0 0]) 4 80 Try.underlying63 hj hy0 hy1 hy2 rfl (by decide) _ _ _ rfl (World.ownsRow.alloc HS5.out.own _) _ 1 [.int .i64 kd, .slice a1 l1.length c1, .slice a2 l2.length c2, .slice a3 l3.length c3] rfl (srcQ_one _ _ _ _ _ _ _ _ _ _ _) (by unfold maxLen; omega) (by omega) (by simp; omega) ?_)
                    intro v9 w9 hown9 hg9
                    have B9 : Hid (Below w3.heap.size w3 w9) := Lib.hid ((BS.out.alloc BS.out.size _).grown hg9.gb (by simp; omega) (fun q hq => (World.ownsRow.lt HS5.out.own q hq).1))
                    have KK : ∀ q, q < w3.heap.size → ((True ∧ q < (ws.alloc (.cells #[.int .i64 kd, .slice a1 l1.length c1, .slice a2 l2.length c2, .slice a3 l3.length c3] 100)).heap.size ∧ (Value.slice (some ⟨go, 0, none⟩) os.length orc).ownBlock ≠ some q) ∧ (ws.alloc (.cells #[.int .i64 kd, .slice a1 l1.length c1, .slice a2 l2.length c2, .slice a3 l3.length c3] 100)).heap[q]? = w3.heap[q]?) := fun q hq => by
                      exact ⟨⟨trivial, by simp; omega, fun e => by have := (World.ownsRow.lt HS5.out.own q e).1; omega⟩, (Below.heap_alloc _ _ _ (by omega)).trans (BS.out.block q hq)⟩
                    have O9 := Lib.hid (HS5.out.push part_keeps (fun q hq _ => Below.heap_alloc _ _ _ hq) (by simp) hg9 rfl (fun u hu => by simp at hu; rcases hu with rfl | rfl | rfl | rfl <;> rfl) hown9 (e := (⟨kd, l1, l2, l3⟩ : PartN (List UInt8))) ⟨_, _, _, rfl, R1.out.kept (fun q hq => KK q hq), R2.out.kept (fun q hq => KK q hq), R3.out.kept (fun q hq => KK q hq)⟩)
                    clear hown9 hg9 KK
                    go_wp2_with fail
                    go_roundw
                    case rel => exact ⟨k + 1, _, os ++ [⟨kd, l1, l2, l3⟩], by omega, by go_num, by simp; omega, Lib.hid (by rw [HTS.out]; exact HPUT.out), O9, B9⟩
                    case measure => simp [intOf]; omega
                · have hkb : (kd == 0) = false := by rw [beq_eq_false_iff_ne]; exact hk0
                  have hkc : (kd = 0) = False := eq_false hk0
                  clear hways hk0
                  go_wp2_with (at_builtin; refine wpList_own_src _ rfl _ _ 63 63 rfl w3.heap.size 100 j0 (.agg #[.int .i64 0, .slice none 0 0, .slice none 0 0, .slice none 0 0]) 4 80 Try.underlying63 hj hy0 hy1 hy2 rfl (by decide) _ _ _ rfl (World.ownsRow.alloc HS5.out.own _) _ 1 [.int .i64 kd, .slice a1 l1.length c1, .slice a2 l2.length c2, .slice a3 l3.length c3] rfl (srcQ_one _ _ _ _ _ _ _ _ _ _ _) (by unfold maxLen; omega) (by omega) (by simp; omega) ?_)
                  intro v9 w9 hown9 hg9
                  have B9 : Hid (Below w3.heap.size w3 w9) := Lib.hid ((BS.out.alloc BS.out.size _).grown hg9.gb (by simp; omega) (fun q hq => (World.ownsRow.lt HS5.out.own q hq).1))
                  have KK : ∀ q, q < w3.heap.size → ((True ∧ q < (ws.alloc (.cells #[.int .i64 kd, .slice a1 l1.length c1, .slice a2 l2.length c2, .slice a3 l3.length c3] 100)).heap.size ∧ (Value.slice ora os.length orc).ownBlock ≠ some q) ∧ (ws.alloc (.cells #[.int .i64 kd, .slice a1 l1.length c1, .slice a2 l2.length c2, .slice a3 l3.length c3] 100)).heap[q]? = w3.heap[q]?) := fun q hq => by
                    exact ⟨⟨trivial, by simp; omega, fun e => by have := (World.ownsRow.lt HS5.out.own q e).1; omega⟩, (Below.heap_alloc _ _ _ (by omega)).trans (BS.out.block q hq)⟩
                  have O9 := Lib.hid (HS5.out.push part_keeps (fun q hq _ => Below.heap_alloc _ _ _ hq) (by simp) hg9 rfl (fun u hu => by simp at hu; rcases hu with rfl | rfl | rfl | rfl <;> rfl) hown9 (e := (⟨kd, l1, l2, l3⟩ : PartN (List UInt8))) ⟨_, _, _, rfl, R1.out.kept (fun q hq => KK q hq), R2.out.kept (fun q hq => KK q hq), R3.out.kept (fun q hq => KK q hq)⟩)
                  clear hown9 hg9 KK
                  go_wp2_with fail
                  go_roundw
                  case rel => exact ⟨k + 1, _, os ++ [⟨kd, l1, l2, l3⟩], by omega, by go_num, by simp; omega, Lib.hid (by rw [HTS.out]; exact HPUT.out), O9, B9⟩
                  case measure => simp [intOf]; omega
          · have hkl : ALL.take k = ALL := List.take_of_length_le (by rw [HALL.out] at hlt; simp at hlt; omega)
            have HQ : Hid (os = M) := Lib.hid (by rw [← hE.out, hkl]; exact HM.out)
            clear hkl
            go_wp2_with fail
            go_ret2
            refine ⟨_, rfl, ?_, HBW.out.trans (HW.out.mono HBW.out.size)⟩
            have := (HO.out.rows part_keeps).kept part_keeps (S' := fun k => k < wr.heap.size) (w' := wr) (fun q hq => ⟨hq.2, rfl⟩)
            have key : ∀ t, os = t → PartsC (fun k => k < wr.heap.size) wr (.slice ora os.length orc) t := fun t ht => by subst ht; exact this
            exact key M HQ.out
end Go.Proofs.Ytfiogjdjcocbnaa
