/- The law of parts. -/
import Derived.Test.YtfiogjdjcocbnaaWeavW
namespace Go.Proofs.Ytfiogjdjcocbnaa
open Go.RowKit
attribute [local go_sem ↓] Go.wp_at_zero Go.wp_at_succ

theorem good_adj {α : Type} [DecidableEq α] : ∀ {M : List (PartN α)}, Good M → ∀ (k : Nat) (p q : PartN α), M[k]? = some p → M[k + 1]? = some q → ¬ (p.kind = 0 ∧ q.kind = 0)
  | [], _, k, p, q, h, _ => by simp at h
  | x :: r, ⟨_, h2, h3⟩, k, p, q, hp, hq => by
    cases k with
    | zero =>
      simp at hp hq
      subst hp
      exact h2 q (by rw [List.head?_eq_getElem?]; exact hq)
    | succ k => exact good_adj h3 k p q (by simpa using hp) (by simpa using hq)
theorem PartO.app1 {G : Nat → Prop} {w w1 : World} {B : Nat} {v1 v2 v3 u : Value} {l1 l2 l3 r : List (List UInt8)} (h : PartO G w B v1 v2 v3 l1 l2 l3) (ho : OwnS w1 B u (l1 ++ r)) (gr : Grew w w1 v1 u) : PartO (fun _ => True) w1 B u v2 v3 (l1 ++ r) l2 l3 :=
  PartO.mono (G := fun k => G k ∨ (w.heap.size ≤ k ∧ k < w1.heap.size)) (B := B) ⟨ho, ownS_kept h.o2 (fun k e => gr.gb.block k (ownS_lt h.o2 k e).2 (fun e2 => h.d12 k e2.symm e)), ownS_kept h.o3 (fun k e => gr.gb.block k (ownS_lt h.o3 k e).2 (fun e2 => h.d13 k e2.symm e)), fun k e => (gr.own k e).elim (fun e2 => Or.inl (h.g1 k e2)) (fun e2 => Or.inr ⟨e2, (ownS_lt ho k e).2⟩), fun k e => Or.inl (h.g2 k e), fun k e => Or.inl (h.g3 k e), fun k e => (gr.own k e).elim (h.d12 k) (fun e2 e3 => absurd (ownS_lt h.o2 k e3).2 (Nat.not_lt.2 e2)), fun k e => (gr.own k e).elim (h.d13 k) (fun e2 e3 => absurd (ownS_lt h.o3 k e3).2 (Nat.not_lt.2 e2)), h.d23⟩ (Nat.le_refl _) (fun _ _ => trivial) (fun _ _ => trivial) (fun _ _ => trivial)
theorem PartO.app2 {G : Nat → Prop} {w w1 : World} {B : Nat} {v1 v2 v3 u : Value} {l1 l2 l3 r : List (List UInt8)} (h : PartO G w B v1 v2 v3 l1 l2 l3) (ho : OwnS w1 B u (l2 ++ r)) (gr : Grew w w1 v2 u) : PartO (fun _ => True) w1 B v1 u v3 l1 (l2 ++ r) l3 :=
  PartO.mono (G := fun k => G k ∨ (w.heap.size ≤ k ∧ k < w1.heap.size)) (B := B) ⟨ownS_kept h.o1 (fun k e => gr.gb.block k (ownS_lt h.o1 k e).2 (fun e2 => h.d12 k e e2.symm)), ho, ownS_kept h.o3 (fun k e => gr.gb.block k (ownS_lt h.o3 k e).2 (fun e2 => h.d23 k e2.symm e)), fun k e => Or.inl (h.g1 k e), fun k e => (gr.own k e).elim (fun e2 => Or.inl (h.g2 k e2)) (fun e2 => Or.inr ⟨e2, (ownS_lt ho k e).2⟩), fun k e => Or.inl (h.g3 k e), fun k e e3 => (gr.own k e3).elim (h.d12 k e) (fun e2 => absurd (ownS_lt h.o1 k e).2 (Nat.not_lt.2 e2)), h.d13, fun k e => (gr.own k e).elim (h.d23 k) (fun e2 e3 => absurd (ownS_lt h.o3 k e3).2 (Nat.not_lt.2 e2))⟩ (Nat.le_refl _) (fun _ _ => trivial) (fun _ _ => trivial) (fun _ _ => trivial)
theorem PartO.app3 {G : Nat → Prop} {w w1 : World} {B : Nat} {v1 v2 v3 u : Value} {l1 l2 l3 r : List (List UInt8)} (h : PartO G w B v1 v2 v3 l1 l2 l3) (ho : OwnS w1 B u (l3 ++ r)) (gr : Grew w w1 v3 u) : PartO (fun _ => True) w1 B v1 v2 u l1 l2 (l3 ++ r) :=
  PartO.mono (G := fun k => G k ∨ (w.heap.size ≤ k ∧ k < w1.heap.size)) (B := B) ⟨ownS_kept h.o1 (fun k e => gr.gb.block k (ownS_lt h.o1 k e).2 (fun e2 => h.d13 k e e2.symm)), ownS_kept h.o2 (fun k e => gr.gb.block k (ownS_lt h.o2 k e).2 (fun e2 => h.d23 k e e2.symm)), ho, fun k e => Or.inl (h.g1 k e), fun k e => Or.inl (h.g2 k e), fun k e => (gr.own k e).elim (fun e2 => Or.inl (h.g3 k e2)) (fun e2 => Or.inr ⟨e2, (ownS_lt ho k e).2⟩), h.d12, fun k e e3 => (gr.own k e3).elim (h.d13 k e) (fun e2 => absurd (ownS_lt h.o1 k e).2 (Nat.not_lt.2 e2)), fun k e e3 => (gr.own k e3).elim (h.d23 k e) (fun e2 => absurd (ownS_lt h.o2 k e).2 (Nat.not_lt.2 e2))⟩ (Nat.le_refl _) (fun _ _ => trivial) (fun _ _ => trivial) (fun _ _ => trivial)
theorem partO_nil (w : World) (B : Nat) : PartO (fun _ => True) w B (.slice none 0 0) (.slice none 0 0) (.slice none 0 0) [] [] [] :=
  ⟨ownS_nil _ _, ownS_nil _ _, ownS_nil _ _, fun _ _ => trivial, fun _ _ => trivial, fun _ _ => trivial, fun k e => by simp [Value.ownBlock] at e, fun k e => by simp [Value.ownBlock] at e, fun k e => by simp [Value.ownBlock] at e⟩
set_option maxRecDepth 100000 in
set_option maxHeartbeats 8000000 in
theorem wparts_law (S T R : Nat → Prop) (va vb vc : Value) (a b c : List (List UInt8)) (w : World) (hS : ∀ k, S k → k < w.heap.size) (hT : ∀ k, T k → k < w.heap.size) (hR : ∀ k, R k → k < w.heap.size) (ha : StrsC S w va a) (hb : StrsC T w vb b) (hc : StrsC R w vc c) (hsa : sumL a ≤ 1048576) (hsb : sumL b ≤ 1048576) (hsc : sumL c ≤ 1048576) :
    Calls Try.prog 11 #[va, vb, vc] w (TrueP w) := by
  unfold TrueP
  obtain ⟨i0, hi, hz0, hz1, hz2⟩ := info_parts Try.info9s
  obtain ⟨hal, hax⟩ := sum_bounds hsa
  obtain ⟨hbl, hbx⟩ := sum_bounds hsb
  obtain ⟨hcl, hcx⟩ := sum_bounds hsc
  have HA := Lib.hid (fun (W : World) (h : Below w.heap.size w W) => ha.kept (S' := fun k => k < w.heap.size) (w' := W) (fun k hk => ⟨hS k hk, h.block k (hS k hk)⟩))
  have HB := Lib.hid (fun (W : World) (h : Below w.heap.size w W) => hb.kept (S' := fun k => k < w.heap.size) (w' := W) (fun k hk => ⟨hT k hk, h.block k (hT k hk)⟩))
  have HC := Lib.hid (fun (W : World) (h : Below w.heap.size w W) => hc.kept (S' := fun k => k < w.heap.size) (w' := W) (fun k hk => ⟨hR k hk, h.block k (hR k hk)⟩))
  obtain ⟨aa, ac, rfl⟩ := ha.shape
  obtain ⟨ba, bc, rfl⟩ := hb.shape
  obtain ⟨ca, cc, rfl⟩ := hc.shape
  have HAX := Lib.hid hax
  have HBX := Lib.hid hbx
  have HCX := Lib.hid hcx
  clear ha hb hc hS hT hR hsa hsb hsc hax hbx hcx
  go_enter Try.func11, Try.ntmps11
  go_wp2_with fail
  refine (awake8_any _).mono ?_
  rintro e w1 ⟨rfl, hb1⟩
  have B1 := Lib.hid hb1
  have hs1 := hb1.size
  clear hb1
  go_wp2_with fail
  refine (small_any _ _ _ _ _ _ _ _ _ w1 (by omega) (by omega) (by omega)).mono ?_
  rintro e w1' ⟨rfl, hw1⟩
  rw [hw1]
  clear hw1 w1'
  by_cases hsm : a.length ≤ 200 ∧ b.length ≤ 200 ∧ c.length ≤ 200
  · have e3 : (decide (a.length ≤ 200) && decide (b.length ≤ 200) && decide (c.length ≤ 200)) = true := by simp [hsm.1, hsm.2.1, hsm.2.2]
    rw [e3]
    obtain ⟨h1, h2, h3⟩ := hsm
    clear e3
    go_wp2_with fail
    refine (merge_any _ _ _ _ _ _ a b c w1 (fun k hk => Nat.lt_of_lt_of_le hk hs1) (fun k hk => Nat.lt_of_lt_of_le hk hs1) (fun k hk => Nat.lt_of_lt_of_le hk hs1) (HA.out w1 B1.out) (HB.out w1 B1.out) (HC.out w1 B1.out) (by omega) (by omega) (by omega) HAX.out HBX.out HCX.out (small_mul (by omega) (by omega)) (small_mul (by omega) (by omega))).mono ?_
    intro e w2 g2
    obtain ⟨a2, c2, rfl, hp2, hb2⟩ := g2.open
    have hml := merge_few a b c
    have HG := Lib.hid (good_all (merge_good a b c))
    have HAD := Lib.hid (good_adj (merge_good a b c))
    obtain ⟨f1, f2, f3⟩ := merge_flat a b c
    have HBN := Lib.hid (fun p (hp : p ∈ mergeN a b c) => by
      have k1 := flat_mem PartN.base (mergeN a b c) p hp
      have k2 := flat_mem PartN.ours (mergeN a b c) p hp
      have k3 := flat_mem PartN.theirs (mergeN a b c) p hp
      rw [f1] at k1
      rw [f2] at k2
      rw [f3] at k3
      exact And.intro (Nat.le_trans k1 h1) (And.intro (Nat.le_trans k2 h2) (Nat.le_trans k3 h3)))
    obtain ⟨M, hM⟩ : ∃ M, mergeN a b c = M := ⟨_, rfl⟩
    rw [hM] at hp2 hml HG HAD f1 f2 f3 HBN ⊢
    have F1 := Lib.hid f1
    have F2 := Lib.hid f2
    have F3 := Lib.hid f3
    have hMl : M.length ≤ 600 := by omega
    have B2 := Lib.hid (B1.out.trans (hb2.mono hs1))
    have hs2 := B2.out.size
    have P2 := Lib.hid (hp2.kept part_keeps (S' := fun k => k < w2.heap.size) (w' := w2) (fun k hk => ⟨hk.2, rfl⟩))
    clear g2 hp2 hb2 hM f1 f2 f3 hml HAX HBX HCX
    go_wp2_with fail
    go_loopw [9, 10, 11, 30] (fun x y z n wr => ∃ (k : Nat) (r1 r2 r3 : List (List UInt8)), k ≤ M.length ∧ n = .int .i64 k ∧ r1.length + r2.length + r3.length ≤ 600 * k ∧ Hid (PartO (fun _ => True) wr w2.heap.size x y z r1 r2 r3) ∧ Hid (r1 ++ (M.drop k).flatMap PartN.base = a ∧ r2 ++ (M.drop k).flatMap PartN.ours = b ∧ r3 ++ (M.drop k).flatMap PartN.theirs = c) ∧ Hid (Below w2.heap.size w2 wr)) (fun _ _ _ n _ => M.length - (intOf n).toNat)
    case atStart => exact ⟨0, [], [], [], Nat.zero_le _, rfl, by simp, Lib.hid (partO_nil _ _), Lib.hid ⟨by simpa using F1.out, by simpa using F2.out, by simpa using F3.out⟩, Lib.hid (Below.refl _ _)⟩
    case round =>
      obtain ⟨k, r1, r2, r3, hk, rfl, hrl, hP, hE, hW⟩ := hrel
      obtain ⟨xa, xc, rfl⟩ := ownS_slice hP.out.o1
      obtain ⟨ya, yc, rfl⟩ := ownS_slice hP.out.o2
      obtain ⟨za, zc, rfl⟩ := ownS_slice hP.out.o3
      by_cases hlt : k < M.length
      · have hPR := P2.out.kept part_keeps (S' := fun k => k < w2.heap.size) (w' := wr) (fun q hq => ⟨hq, hW.out.block q hq⟩)
        obtain ⟨g, og, rfl, hgS, hgc, hgd, hcs⟩ := part_at hPR (by omega)
        obtain ⟨p, hh⟩ : ∃ p, M[k]? = some p := ⟨_, List.getElem?_eq_getElem hlt⟩
        have hd : M.drop k = p :: M.drop (k + 1) := drop_one hh
        obtain ⟨aba, cba, aou, cou, ath, cth, z0, z1, z2, z3, s1, s2, s3⟩ := hcs k p hh
        obtain ⟨hgk, hgn⟩ := HG.out p (List.mem_of_getElem? hh)
        obtain ⟨n1, n2, n3⟩ := HBN.out p (List.mem_of_getElem? hh)
        have hE2 := hE.out
        rw [hd, List.flatMap_cons, List.flatMap_cons, List.flatMap_cons] at hE2
        have HE2 : Hid ((r1 ++ p.base) ++ (M.drop (k + 1)).flatMap PartN.base = a ∧ (r2 ++ p.ours) ++ (M.drop (k + 1)).flatMap PartN.ours = b ∧ (r3 ++ p.theirs) ++ (M.drop (k + 1)).flatMap PartN.theirs = c) := Lib.hid (by rw [List.append_assoc, List.append_assoc, List.append_assoc]; exact hE2)
        have hprev : (k = 0) ∨ ∃ j kj, k = j + 1 ∧ wr.cell? ⟨g, og + j * 4, none⟩ = some (.int .i64 kj) ∧ (p.kind ≠ 0 ∨ (p.kind = 0 ∧ kj ≠ 0)) := by
          rcases Nat.eq_zero_or_pos k with h | h
          · exact Or.inl h
          · right
            obtain ⟨j, rfl⟩ : ∃ j, k = j + 1 := ⟨k - 1, by omega⟩
            obtain ⟨q, hq⟩ : ∃ q, M[j]? = some q := ⟨_, List.getElem?_eq_getElem (by omega)⟩
            obtain ⟨_, _, _, _, _, _, y0, _⟩ := hcs j q hq
            refine ⟨j, q.kind, rfl, y0, ?_⟩
            have := HAD.out j q p hq hh
            by_cases h0 : p.kind = 0
            · exact Or.inr ⟨h0, fun e => this ⟨e, h0⟩⟩
            · exact Or.inl h0
        obtain ⟨kd, l1, l2, l3⟩ := p
        simp only at z0 z1 z2 z3 s1 s2 s3 hgk hgn n1 n2 n3 HE2 hprev
        have HSB := Lib.hid (fun (W : World) (h : Below w2.heap.size w2 W) => And.intro (s1.kept (S' := fun k => k < w2.heap.size) (w' := W) (fun q hq => ⟨hq, (h.block q hq).trans (hW.out.block q hq).symm⟩)) (And.intro (s2.kept (S' := fun k => k < w2.heap.size) (w' := W) (fun q hq => ⟨hq, (h.block q hq).trans (hW.out.block q hq).symm⟩)) (s3.kept (S' := fun k => k < w2.heap.size) (w' := W) (fun q hq => ⟨hq, (h.block q hq).trans (hW.out.block q hq).symm⟩))))
        have HPV : Hid (∀ W : World, Below w2.heap.size w2 W → ∀ q, W.cell? ⟨g, q, none⟩ = wr.cell? ⟨g, q, none⟩) := Lib.hid (fun W h q => World.cell?_of_block (w := wr) (a := ⟨g, q, none⟩) ((h.block g hgS).trans (hW.out.block g hgS).symm))
        have hl0 : ((l1.length : Int) + (l2.length : Int) + (l3.length : Int) == 0) = false := by
          rw [beq_eq_false_iff_ne]
          intro e
          exact hgn ⟨List.length_eq_zero_iff.1 (by omega), List.length_eq_zero_iff.1 (by omega), List.length_eq_zero_iff.1 (by omega)⟩
        have HGK := Lib.hid hgk
        have BX0 := Lib.hid (new_five wr #[.int .i64 kd, .slice aba l1.length cba, .slice aou l2.length cou, .slice ath l3.length cth] 73)
        have BW0 : Hid (Below w2.heap.size w2 (wr.alloc (.cells #[.int .i64 kd, .slice aba l1.length cba, .slice aou l2.length cou, .slice ath l3.length cth] 73))) := Lib.hid (hW.out.alloc hW.out.size _)
        have PW0 : Hid (PartO (fun _ => True) (wr.alloc (.cells #[.int .i64 kd, .slice aba l1.length cba, .slice aou l2.length cou, .slice ath l3.length cth] 73)) w2.heap.size (.slice xa r1.length xc) (.slice ya r2.length yc) (.slice za r3.length zc) r1 r2 r3) := Lib.hid ⟨World.ownsRow.alloc hP.out.o1 _, World.ownsRow.alloc hP.out.o2 _, World.ownsRow.alloc hP.out.o3 _, hP.out.g1, hP.out.g2, hP.out.g3, hP.out.d12, hP.out.d13, hP.out.d23⟩
        have NB0 : Hid (((Value.slice xa r1.length xc).ownBlock ≠ some wr.heap.size) ∧ ((Value.slice ya r2.length yc).ownBlock ≠ some wr.heap.size) ∧ ((Value.slice za r3.length zc).ownBlock ≠ some wr.heap.size)) := Lib.hid ⟨fun e => by have := (ownS_lt hP.out.o1 _ e).2; omega, fun e => by have := (ownS_lt hP.out.o2 _ e).2; omega, fun e => by have := (ownS_lt hP.out.o3 _ e).2; omega⟩
        have hpl0 : wr.heap.size < (wr.alloc (.cells #[.int .i64 kd, .slice aba l1.length cba, .slice aou l2.length cou, .slice ath l3.length cth] 73)).heap.size := by simp
        have hws := hW.out.size
        clear s1 s2 s3 hcs hh hd hE hE2 hgk hgn hP hPR
        go_upto_region 10 with fail
        clear z0 z1 z2 z3
        generalize wr.alloc (.cells #[.int .i64 kd, .slice aba l1.length cba, .slice aou l2.length cou, .slice ath l3.length cth] 73) = wp at *
        obtain ⟨pb, hpb⟩ : ∃ pb, wr.heap.size = pb := ⟨_, rfl⟩
        rw [hpb] at BX0 NB0 hpl0 hws ⊢
        have HBX4 : Hid (∀ W : World, W.heap[pb]? = wp.heap[pb]? → W.cell? ⟨pb, 0, none⟩ = some (.int .i64 kd) ∧ W.cell? ⟨pb, 1, none⟩ = some (.slice aba l1.length cba) ∧ W.cell? ⟨pb, 2, none⟩ = some (.slice aou l2.length cou) ∧ W.cell? ⟨pb, 3, none⟩ = some (.slice ath l3.length cth)) := Lib.hid (fun W hW => box4 BX0.out hW)
        have HF : Hid (∀ W : World, W.heap[pb]? = wp.heap[pb]? → W.cell? ⟨pb, 1, none⟩ = some (.slice aba l1.length cba) ∧ W.cell? ⟨pb, 2, none⟩ = some (.slice aou l2.length cou) ∧ W.cell? ⟨pb, 3, none⟩ = some (.slice ath l3.length cth)) := Lib.hid (fun W hW => (box4 BX0.out hW).2)
        have hr1 : r1.length ≤ 360000 := by have := Nat.mul_le_mul_left 600 (Nat.le_trans hk hMl); omega
        have hr2 : r2.length ≤ 360000 := by have := Nat.mul_le_mul_left 600 (Nat.le_trans hk hMl); omega
        have hr3 : r3.length ≤ 360000 := by have := Nat.mul_le_mul_left 600 (Nat.le_trans hk hMl); omega
        clear hpb BX0 hW
        refine wp_region_held_drew (S := (fun W => W.cell? ⟨pb, 1, none⟩ = some (.slice aba l1.length cba) ∧ W.cell? ⟨pb, 2, none⟩ = some (.slice aou l2.length cou) ∧ W.cell? ⟨pb, 3, none⟩ = some (.slice ath l3.length cth))) (by kernel_rfl) (by exact HF.out _ rfl) (fun hHeld => ?_)
        have PD : Hid (wp.drew.heap[pb]? = wp.heap[pb]?) := Lib.hid rfl
        have POD := Lib.hid (PW0.out.kept (w' := wp.drew) (fun _ _ => rfl))
        have BWD : Hid (Below w2.heap.size w2 wp.drew) := Lib.hid (BW0.out.trans (drewn _ wp 1))
        have HSZwd : Hid (pb < wp.drew.heap.size) := Lib.hid hpl0
        have NBD := NB0
        clear PW0 BW0 hpl0 NB0
        generalize wp.drew = wd at *
        refine wpAnyH_take (i := 0) (oi := ⟨_, _, _, _, _, _⟩) (v := ?_) rfl (by kernel_rfl) (by kernel_rfl) (by kernel_rfl) (fun _ _ _ h => h) (Or.inl ⟨by rfl, ?_⟩) (by assumption) ?_
        rotate_left
        · intro w hSw; (try dsimp only at hSw); first | (go_simp; done) | (go_simp; with_reducible rfl)
        try simp only [Act.put, List.setIfInBounds_toArray, List.set_cons_zero, List.set_cons_succ]
        refine wpAnyH_take (i := 1) (oi := ⟨_, _, _, _, _, _⟩) (v := ?_) rfl (by kernel_rfl) (by kernel_rfl) (by kernel_rfl) (fun _ _ _ h => h) (Or.inl ⟨by rfl, ?_⟩) (by assumption) ?_
        rotate_left
        · intro w hSw; (try dsimp only at hSw); first | (go_simp; done) | (go_simp; with_reducible rfl)
        try simp only [Act.put, List.setIfInBounds_toArray, List.set_cons_zero, List.set_cons_succ]
        refine wpAnyH_take (i := 2) (oi := ⟨_, _, _, _, _, _⟩) (v := ?_) rfl (by kernel_rfl) (by kernel_rfl) (by kernel_rfl) (fun _ _ _ h => h) (Or.inl ⟨by rfl, ?_⟩) (by assumption) ?_
        rotate_left
        · intro w hSw; (try dsimp only at hSw); first | (go_simp; done) | (go_simp; with_reducible rfl)
        try simp only [Act.put, List.setIfInBounds_toArray, List.set_cons_zero, List.set_cons_succ]
        refine wpAnyH_take (i := 4) (oi := ⟨_, _, _, _, _, _⟩) (v := ?_) rfl (by kernel_rfl) (by kernel_rfl) (by kernel_rfl) (fun _ _ _ h => h) (Or.inl ⟨by rfl, ?_⟩) (by assumption) ?_
        rotate_left
        · intro w hSw; (try dsimp only at hSw); first | (go_simp; done) | (go_simp; with_reducible rfl)
        try simp only [Act.put, List.setIfInBounds_toArray, List.set_cons_zero, List.set_cons_succ]
        refine wpAnyH_take (i := 5) (oi := ⟨_, _, _, _, _, _⟩) (v := ?_) rfl (by kernel_rfl) (by kernel_rfl) (by kernel_rfl) (fun _ _ _ h => h) (Or.inl ⟨by rfl, ?_⟩) (by assumption) ?_
        rotate_left
        · intro w hSw; (try dsimp only at hSw); first | (go_simp; done) | (go_simp; with_reducible rfl)
        try simp only [Act.put, List.setIfInBounds_toArray, List.set_cons_zero, List.set_cons_succ]
        refine wpAnyH_take (i := 6) (oi := ⟨_, _, _, _, _, _⟩) (v := ?_) rfl (by kernel_rfl) (by kernel_rfl) (by kernel_rfl) (fun _ _ _ h => h) (Or.inl ⟨by rfl, ?_⟩) (by assumption) ?_
        rotate_left
        · intro w hSw; (try dsimp only at hSw); first | (go_simp; done) | (go_simp; with_reducible rfl)
        try simp only [Act.put, List.setIfInBounds_toArray, List.set_cons_zero, List.set_cons_succ]
        refine wpAnyH_take (i := 8) (oi := ⟨_, _, _, _, _, _⟩) (v := ?_) rfl (by kernel_rfl) (by kernel_rfl) (by kernel_rfl) (fun _ _ _ h => h) (Or.inl ⟨by rfl, ?_⟩) (by assumption) ?_
        rotate_left
        · intro w hSw; (try dsimp only at hSw); first | (go_simp; done) | (go_simp; with_reducible rfl)
        try simp only [Act.put, List.setIfInBounds_toArray, List.set_cons_zero, List.set_cons_succ]
        refine wpAnyH_take (i := 9) (oi := ⟨_, _, _, _, _, _⟩) (v := ?_) rfl (by kernel_rfl) (by kernel_rfl) (by kernel_rfl) (fun _ _ _ h => h) (Or.inl ⟨by rfl, ?_⟩) (by assumption) ?_
        rotate_left
        · intro w hSw; (try dsimp only at hSw); first | (go_simp; done) | (go_simp; with_reducible rfl)
        try simp only [Act.put, List.setIfInBounds_toArray, List.set_cons_zero, List.set_cons_succ]
        refine wpAnyH_take (i := 10) (oi := ⟨_, _, _, _, _, _⟩) (v := ?_) rfl (by kernel_rfl) (by kernel_rfl) (by kernel_rfl) (fun _ _ _ h => h) (Or.inl ⟨by rfl, ?_⟩) (by assumption) ?_
        rotate_left
        · intro w hSw; (try dsimp only at hSw); first | (go_simp; done) | (go_simp; with_reducible rfl)
        try simp only [Act.put, List.setIfInBounds_toArray, List.set_cons_zero, List.set_cons_succ]
        refine wpAnyH_ready (rs := [3]) (by kernel_rfl) (by simp) ?_
        refine AllReadyH.cons (o := ⟨_, _, _, _, _, _⟩) rfl (fun K hK => ?_) AllReadyH.nil
        have SRC : Hid (Src Try.prog 1 24 (.slice aba l1.length cba) l1.length (sv l1) wd) := Lib.hid (HSB.out _ BWD.out).1.src
        refine step_own_src _ rfl _ _ 24 24 (by rfl) w2.heap.size 9 i0 (.string ByteArray.empty) 1 16 Try.underlying24 hi hz0 hz1 hz2 rfl (by decide) _ _ _ (by rfl) POD.out.o1 _ _ _ (by rfl) SRC.out (by unfold maxLen; omega) (by omega) BWD.out.size ?_
        intro v1n1 wn1 hown hgr
        have PO1 := Lib.hid (POD.out.app1 (ownS_more rfl hown) hgr)
        have BW1 : Hid (Below w2.heap.size w2 wn1) := Lib.hid (BWD.out.grown hgr.gb BWD.out.size (fun q hq => (ownS_lt POD.out.o1 q hq).1))
        have P1p : Hid (wn1.heap[pb]? = wp.heap[pb]?) := Lib.hid ((hgr.gb.block pb (by have := HSZwd.out; omega) (fun e => NBD.out.1 e.symm)).trans PD.out)
        have HSZwn1 : Hid (pb < wn1.heap.size) := Lib.hid (Nat.lt_of_lt_of_le HSZwd.out hgr.size)
        have NB1 : Hid ((v1n1 : Value).ownBlock ≠ some pb ∧ ((.slice ya r2.length yc) : Value).ownBlock ≠ some pb ∧ ((.slice za r3.length zc) : Value).ownBlock ≠ some pb) := Lib.hid ⟨fun e => (hgr.own _ e).elim NBD.out.1 (fun e2 => by have := HSZwd.out; omega), NBD.out.2.1, NBD.out.2.2⟩
        obtain ⟨q1a, q1c, rfl⟩ := ownS_slice PO1.out.o1
        clear hown hgr SRC PD POD BWD NBD HSZwd
        refine hK.out _ _ (by exact HF.out _ (Hid.out (by assumption))) (fun hHeld => ?_)
        clear hK K
        try simp only [Act.put, List.setIfInBounds_toArray, List.set_cons_zero, List.set_cons_succ]
        refine wpAnyH_ready (rs := [7]) (by kernel_rfl) (by simp) ?_
        refine AllReadyH.cons (o := ⟨_, _, _, _, _, _⟩) rfl (fun K hK => ?_) AllReadyH.nil
        have SRC : Hid (Src Try.prog 1 24 (.slice aou l2.length cou) l2.length (sv l2) wn1) := Lib.hid (HSB.out _ BW1.out).2.1.src
        refine step_own_src _ rfl _ _ 24 24 (by rfl) w2.heap.size 9 i0 (.string ByteArray.empty) 1 16 Try.underlying24 hi hz0 hz1 hz2 rfl (by decide) _ _ _ (by rfl) PO1.out.o2 _ _ _ (by rfl) SRC.out (by unfold maxLen; omega) (by omega) BW1.out.size ?_
        intro v2n2 wn2 hown hgr
        have PO2 := Lib.hid (PO1.out.app2 (ownS_more rfl hown) hgr)
        have BW2 : Hid (Below w2.heap.size w2 wn2) := Lib.hid (BW1.out.grown hgr.gb BW1.out.size (fun q hq => (ownS_lt PO1.out.o2 q hq).1))
        have P2p : Hid (wn2.heap[pb]? = wp.heap[pb]?) := Lib.hid ((hgr.gb.block pb (by have := HSZwn1.out; omega) (fun e => NB1.out.2.1 e.symm)).trans P1p.out)
        have HSZwn2 : Hid (pb < wn2.heap.size) := Lib.hid (Nat.lt_of_lt_of_le HSZwn1.out hgr.size)
        have NB2 : Hid (((.slice q1a (r1 ++ l1).length q1c) : Value).ownBlock ≠ some pb ∧ (v2n2 : Value).ownBlock ≠ some pb ∧ ((.slice za r3.length zc) : Value).ownBlock ≠ some pb) := Lib.hid ⟨NB1.out.1, fun e => (hgr.own _ e).elim NB1.out.2.1 (fun e2 => by have := HSZwn1.out; omega), NB1.out.2.2⟩
        obtain ⟨q2a, q2c, rfl⟩ := ownS_slice PO2.out.o2
        clear hown hgr SRC P1p PO1 BW1 NB1 HSZwn1
        refine hK.out _ _ (by exact HF.out _ (Hid.out (by assumption))) (fun hHeld => ?_)
        clear hK K
        try simp only [Act.put, List.setIfInBounds_toArray, List.set_cons_zero, List.set_cons_succ]
        refine wpAnyH_ready (rs := [11]) (by kernel_rfl) (by simp) ?_
        refine AllReadyH.cons (o := ⟨_, _, _, _, _, _⟩) rfl (fun K hK => ?_) AllReadyH.nil
        have SRC : Hid (Src Try.prog 1 24 (.slice ath l3.length cth) l3.length (sv l3) wn2) := Lib.hid (HSB.out _ BW2.out).2.2.src
        refine step_own_src _ rfl _ _ 24 24 (by rfl) w2.heap.size 9 i0 (.string ByteArray.empty) 1 16 Try.underlying24 hi hz0 hz1 hz2 rfl (by decide) _ _ _ (by rfl) PO2.out.o3 _ _ _ (by rfl) SRC.out (by unfold maxLen; omega) (by omega) BW2.out.size ?_
        intro v3n3 wn3 hown hgr
        have PO3 := Lib.hid (PO2.out.app3 (ownS_more rfl hown) hgr)
        have BW3 : Hid (Below w2.heap.size w2 wn3) := Lib.hid (BW2.out.grown hgr.gb BW2.out.size (fun q hq => (ownS_lt PO2.out.o3 q hq).1))
        have P3p : Hid (wn3.heap[pb]? = wp.heap[pb]?) := Lib.hid ((hgr.gb.block pb (by have := HSZwn2.out; omega) (fun e => NB2.out.2.2 e.symm)).trans P2p.out)
        have HSZwn3 : Hid (pb < wn3.heap.size) := Lib.hid (Nat.lt_of_lt_of_le HSZwn2.out hgr.size)
        have NB3 : Hid (((.slice q1a (r1 ++ l1).length q1c) : Value).ownBlock ≠ some pb ∧ ((.slice q2a (r2 ++ l2).length q2c) : Value).ownBlock ≠ some pb ∧ (v3n3 : Value).ownBlock ≠ some pb) := Lib.hid ⟨NB2.out.1, NB2.out.2.1, fun e => (hgr.own _ e).elim NB2.out.2.2 (fun e2 => by have := HSZwn2.out; omega)⟩
        obtain ⟨q3a, q3c, rfl⟩ := ownS_slice PO3.out.o3
        clear hown hgr SRC P2p PO2 BW2 NB2 HSZwn2
        refine hK.out _ _ (by exact HF.out _ (Hid.out (by assumption))) (fun hHeld => ?_)
        clear hK K
        try simp only [Act.put, List.setIfInBounds_toArray, List.set_cons_zero, List.set_cons_succ]
        refine wpAnyH_take (i := 12) (oi := ⟨_, _, _, _, _, _⟩) (v := ?_) rfl (by kernel_rfl) (by kernel_rfl) (by kernel_rfl) (fun _ _ _ h => h) (Or.inl ⟨by rfl, ?_⟩) (by assumption) ?_
        rotate_left
        · intro w hSw; (try dsimp only at hSw); first | (go_simp; done) | (go_simp; with_reducible rfl)
        try simp only [Act.put, List.setIfInBounds_toArray, List.set_cons_zero, List.set_cons_succ]
        refine wpAnyH_take (i := 13) (oi := ⟨_, _, _, _, _, _⟩) (v := ?_) rfl (by kernel_rfl) (by kernel_rfl) (by kernel_rfl) (fun _ _ _ h => h) (Or.inl ⟨by rfl, ?_⟩) (by assumption) ?_
        rotate_left
        · intro w hSw; (try dsimp only at hSw); first | (go_simp; done) | (go_simp; with_reducible rfl)
        try simp only [Act.put, List.setIfInBounds_toArray, List.set_cons_zero, List.set_cons_succ]
        refine wpAnyH_take (i := 14) (oi := ⟨_, _, _, _, _, _⟩) (v := ?_) rfl (by kernel_rfl) (by kernel_rfl) (by kernel_rfl) (fun _ _ _ h => h) (Or.inl ⟨by rfl, ?_⟩) (by assumption) ?_
        rotate_left
        · intro w hSw; (try dsimp only at hSw); first | (go_simp; done) | (go_simp; with_reducible rfl)
        try simp only [Act.put, List.setIfInBounds_toArray, List.set_cons_zero, List.set_cons_succ]
        refine wpAnyH_done (by kernel_rfl) ?_ _
        clear hHeld
        obtain ⟨wq, hwq⟩ : ∃ W, W = wn3 := ⟨_, rfl⟩
        have PQ : Hid (wq.heap[pb]? = wp.heap[pb]?) := by rw [hwq]; exact P3p
        have BQ : Hid (Below w2.heap.size w2 wq) := by rw [hwq]; exact BW3
        have PQ2 := PO3
        rw [← hwq] at PQ2 ⊢
        clear hwq P3p PO3 BW3 NB3 HF
        simp only [List.length_append] at PQ2
        obtain ⟨b0, b1, b2, b3⟩ := HBX4.out wq PQ.out
        have KQ := Lib.hid (fun n => rkind_any _ _ _ _ _ _ l1 l2 l3 (wq.drewN n) ((HSB.out wq BQ.out).1.kept (S' := fun k => k < w2.heap.size) (fun k hk => ⟨hk, rfl⟩)) ((HSB.out wq BQ.out).2.1.kept (S' := fun k => k < w2.heap.size) (fun k hk => ⟨hk, rfl⟩)) ((HSB.out wq BQ.out).2.2.kept (S' := fun k => k < w2.heap.size) (fun k hk => ⟨hk, rfl⟩)) (by omega) (by omega) (by omega))
        have KQ2 : Hid (∀ n, Calls Try.prog 42 #[.slice aba l1.length cba, .slice aou l2.length cou, .slice ath l3.length cth] (wq.drewN n) fun e w' => e = .returned (.int .i64 kd) ∧ ∃ m, w' = (wq.drewN n).drewN m) := Lib.hid (fun n => by have h := KQ.out n; rw [← HGK.out] at h; exact h)
        clear KQ
        have hkk : (kd != kd) = false := by simp
        rcases hprev with h0 | ⟨j, kj, rfl, y0, hkz⟩
        · have hz0 : decide ((k : Int) > 0) = false := by rw [decide_eq_false_iff_not]; omega
          have hz0b : decide ((0 : Int) < (k : Int)) = false := by rw [decide_eq_false_iff_not]; omega
          have hz0c : decide (0 < k) = false := by rw [decide_eq_false_iff_not]; omega
          clear h0
          go_wp2_with fail
          go_quiet ((go_at_call 42; with_reducible exact Calls.quiet_of (KQ2.out _)))
          go_wp2_with fail
          go_roundw
          case rel => exact ⟨k + 1, _, _, _, by omega, by go_num, by simp; omega, Lib.hid (PartO.mono (PQ2.out.kept (w' := wq.drewN nq) (fun _ _ => rfl)) (Nat.le_refl _) (fun _ _ => trivial) (fun _ _ => trivial) (fun _ _ => trivial)), HE2, Lib.hid (BQ.out.trans (drewn _ _ _))⟩
          case measure => simp [intOf]; omega
        · have y1 := (HPV.out wq BQ.out (og + j * 4)).trans y0
          have hz1 : ((j + 1 : Nat) : Int) - 1 = (j : Int) := by omega
          obtain ⟨k1, hk1⟩ : ∃ k1, j + 1 = k1 := ⟨_, rfl⟩
          have hjk : j < k1 := by omega
          have HJK := Lib.hid hk1
          rw [hk1] at hz1 hrl hlt hk HE2 ⊢
          have hz0 : decide ((k1 : Int) > 0) = true := by rw [decide_eq_true_eq]; omega
          have hz0b : decide ((0 : Int) < (k1 : Int)) = true := by rw [decide_eq_true_eq]; omega
          have hz0c : decide (0 < k1) = true := by rw [decide_eq_true_eq]; omega
          clear hk1
          have hkz2 : (kd == 0) = false ∨ ((kd == 0) = true ∧ (kj == 0) = false) := by
            rcases hkz with h | ⟨h, h2⟩
            · left; rw [beq_eq_false_iff_ne]; exact h
            · right; exact ⟨by rw [beq_iff_eq]; exact h, by rw [beq_eq_false_iff_ne]; exact h2⟩
          clear hkz y0
          rcases hkz2 with hz4 | ⟨hz4, hz5⟩
          all_goals
            go_wp2_with fail
            go_quiet ((go_at_call 42; with_reducible exact Calls.quiet_of (KQ2.out _)))
            go_wp2_with fail
            go_roundw
            case rel => exact ⟨k1 + 1, _, _, _, by omega, by go_num, by simp; omega, Lib.hid (PartO.mono (PQ2.out.kept (w' := wq.drewN nq) (fun _ _ => rfl)) (Nat.le_refl _) (fun _ _ => trivial) (fun _ _ => trivial) (fun _ _ => trivial)), HE2, Lib.hid (BQ.out.trans (drewn _ _ _))⟩
            case measure => simp [intOf]; omega
      · obtain ⟨e1, e2, e3⟩ := hE.out
        rw [List.drop_eq_nil_of_le (by omega)] at e1 e2 e3
        simp only [List.flatMap_nil, List.append_nil] at e1 e2 e3
        have BW := Lib.hid (B2.out.trans (hW.out.mono hs2))
        have q1 := ownS_c hP.out.o1
        have q2 := ownS_c hP.out.o2
        have q3 := ownS_c hP.out.o3
        have l1' : r1.length ≤ 4194304 := by rw [e1]; omega
        have l2' : r2.length ≤ 4194304 := by rw [e2]; omega
        have l3' : r3.length ≤ 4194304 := by rw [e3]; omega
        have C1 := Lib.hid (same_yes _ _ _ _ r1 a wr q1 (HA.out wr BW.out) l1' (by omega) e1)
        have C2 := Lib.hid (fun n => same_yes _ _ _ _ r2 b (wr.drewN n) (q2.kept (S' := fun k => w2.heap.size ≤ k ∧ k < wr.heap.size) (fun q hq => ⟨hq, rfl⟩)) (HB.out _ (BW.out.trans (drewn _ wr n))) l2' (by omega) e2)
        have C3 := Lib.hid (fun n m => same_yes _ _ _ _ r3 c ((wr.drewN n).drewN m) (q3.kept (S' := fun k => w2.heap.size ≤ k ∧ k < wr.heap.size) (fun q hq => ⟨hq, rfl⟩)) (HC.out _ ((BW.out.trans (drewn _ wr n)).trans (drewn _ _ m))) l3' (by omega) e3)
        clear e1 e2 e3 q1 q2 q3 l1' l2' l3' hE hP hW
        go_wp2_with fail
        refine C1.out.mono ?_
        rintro e x1 ⟨rfl, n1, rfl⟩
        go_wp2_with fail
        refine (C2.out n1).mono ?_
        rintro e x2 ⟨rfl, n2, rfl⟩
        go_wp2_with fail
        have C3b := C3.out n1 n2
        rw [World.drewN_drewN] at C3b
        refine C3b.mono ?_
        rintro e x3 ⟨rfl, n3, rfl⟩
        go_wp2_with fail
        go_ret
        exact ⟨rfl, BW.out.trans (drewn _ wr _)⟩
  · have e3 : (decide (a.length ≤ 200) && decide (b.length ≤ 200) && decide (c.length ≤ 200)) = false := by
      rw [Bool.and_eq_false_iff, Bool.and_eq_false_iff, decide_eq_false_iff_not, decide_eq_false_iff_not, decide_eq_false_iff_not]; omega
    rw [e3]
    go_wp2_with fail
    go_ret
    exact ⟨rfl, B1.out⟩
end Go.Proofs.Ytfiogjdjcocbnaa
