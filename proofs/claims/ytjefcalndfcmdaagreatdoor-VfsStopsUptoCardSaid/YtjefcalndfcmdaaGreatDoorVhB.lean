/- The law: with the power gone nothing changes, until a crash (VfsStops). -/
import Derived.Test.YtjefcalndfcmdaaGreatDoorVhA
namespace Go.Proofs.YtjefcalndfcmdaaGreatDoor
open Go.RowKit Go.Maps
attribute [local go_sem ↓] Go.wp_at_zero Go.wp_at_succ
set_option maxRecDepth 100000 in
set_option maxHeartbeats 16000000 in
theorem stops_law (v vd0 : Value) (l : List OpL) (o : OpL) (w : World) (hv : OpsC (fun k => k < w.heap.size) w v l) (hd : BytesC (fun k => k < w.heap.size) w vd0 o.data) (hl : l.length ≤ 1048576) (hok : ∀ e ∈ l, OpOk e) (ho : OpOk o) (hE : PEnv w) :
    Calls Tryz.prog 5 #[v, .agg (opRow o vd0)] w (TrueV w) := by
  obtain ⟨sa, sc, rfl⟩ := RowsC.shape hv
  have HV := Lib.hid hv
  have HD0 := Lib.hid hd
  have HOK := Lib.hid hok
  have HO := Lib.hid ho
  have HE := Lib.hid hE
  have NEW0 := Lib.hid (new_five w (opRow o vd0) 37)
  have BW0 := Lib.hid ((Below.refl w.heap.size w).alloc (Nat.le_refl _) (.cells (opRow o vd0) 37))
  have HZ0 : Hid ((w.alloc (.cells (opRow o vd0) 37)).heap.size = w.heap.size + 1) := Lib.hid (by simp)
  clear hv hd hok ho hE
  unfold opRow at NEW0 BW0 HZ0 ⊢
  go_enter Tryz.func5, Tryz.ntmps5
  go_upto_region 1 with fail
  generalize w.alloc (.cells #[.int .i64 o.kind, .string ⟨o.name.toArray⟩, .string ⟨o.dest.toArray⟩, vd0, .int .i64 o.n, .int .i64 o.m] 37) = w0 at *
  go_wp2_with fail
  refine (awake_any w0 (HE.out.on BW0.out)).mono ?_
  rintro e w1 ⟨rfl, b1⟩
  have B1 : Hid (Below w.heap.size w w1) := Lib.hid (BW0.out.trans (b1.mono BW0.out.size))
  have NEW1 := Lib.hid ((b1.block w.heap.size (by have := HZ0.out; omega)).trans NEW0.out)
  have Z1 : Hid (w.heap.size + 1 ≤ w1.heap.size) := Lib.hid (by have := HZ0.out; have := b1.size; omega)
  clear b1 NEW0 BW0 HZ0
  have HN := Lib.hid (g_new B1.out 2000 (by omega))
  go_wp2_with fail
  refine HN.out.mono ?_
  rintro e w2 ⟨bf, rfl, g2, b2⟩
  have G2 := Lib.hid g2
  have B2 := Lib.hid b2
  clear g2 b2 HN
  have HNR := Lib.hid (rnew_any 2000 w2)
  unfold fsV at HNR
  go_wp2_with fail
  refine HNR.out.mono ?_
  rintro e w3 ⟨rfl, b3⟩
  have HP0 := Lib.hid (Pl.begin G2.out b3 B2.out.size)
  have BC3 := Lib.hid (B2.out.trans (b3.mono B2.out.size))
  clear HNR G2 B2 b3
  unfold fsV at HP0
  go_upto_region 7 with fail
  obtain ⟨w4, hw4⟩ : ∃ x, (w3.alloc (.cells #[.slice none 0 0, .slice none 0 0, .slice none 0 0, .slice none 0 0, .int .i64 2000, .int .i64 0, .int .i64 (-1)] 33)) = x := ⟨_, rfl⟩
  have HP0' : Hid (Pl w w4 w4 (fun q => q < w1.heap.size) bf w3.heap.size (newS 2000)) := Lib.hid (by rw [← hw4]; exact HP0.out)
  have NEW4 := Lib.hid (((BC3.out.alloc BC3.out.size (.cells #[.slice none 0 0, .slice none 0 0, .slice none 0 0, .slice none 0 0, .int .i64 2000, .int .i64 0, .int .i64 (-1)] 33)).block w.heap.size (by have := Z1.out; omega)).trans NEW1.out)
  rw [hw4] at NEW4 ⊢
  clear hw4 HP0 BC3 NEW1
  obtain ⟨bw, hbw⟩ : ∃ x, w3.heap.size = x := ⟨_, rfl⟩
  rw [hbw] at HP0' ⊢
  clear hbw
  have HLOW : Hid (∀ q, q < w.heap.size → q < w1.heap.size) := Lib.hid (fun q hq => by have := Z1.out; omega)
  go_wp2_with fail
  go_loopw [22] (fun i wr => ∃ k : Nat, k ≤ l.length ∧ i = .int .i64 (k : Int) ∧ ∃ s, Hid (Pl w w4 wr (fun q => q < w1.heap.size) bf bw s) ∧ Hid (s.steps ≤ k ∧ s.files.length ≤ s.steps)) (fun i _ => l.length - (intOf i).toNat)
  case atStart => exact ⟨0, Nat.zero_le _, rfl, newS 2000, HP0', Lib.hid ⟨Nat.le_refl _, Nat.le_refl _⟩⟩
  case round =>
    obtain ⟨k, hk, rfl, s, hP, hC⟩ := hrel
    have HBD : Hid (Bd s) := Lib.hid ⟨hP.out.ok, by have := hC.out.1; omega, hC.out.2⟩
    by_cases hlt : k < l.length
    · obtain ⟨g1, o1, haddr, hSg, hat⟩ := OpsC.at HV.out (by omega)
      subst haddr
      obtain ⟨vd, HVD0, e0, e1, e2, e3, e4, e5⟩ := hat k _ (List.getElem?_eq_getElem (show k < l.length by omega))
      obtain ⟨va, vn, vc, rfl⟩ := bytes_slice HVD0
      have hoo : OpOk l[k] := HOK.out _ (List.getElem_mem _)
      obtain ⟨oo, hoe⟩ : ∃ q, l[k] = q := ⟨_, rfl⟩
      have HOE := Lib.hid hoe
      rw [hoe] at HVD0 e0 e1 e2 e4 e5 hoo
      have HOO := Lib.hid hoo
      clear hoe hat hoo
      have kc : ∀ (p : Nat) (u : Value), w.cell? ⟨g1, p, none⟩ = some u → wr.cell? ⟨g1, p, none⟩ = some u := fun p u hu => (hP.out.below.cell (p := ⟨g1, p, none⟩) hSg).trans hu
      have d0 := kc _ _ e0
      have d1 := kc _ _ e1
      have d2 := kc _ _ e2
      have d3 := kc _ _ e3
      have d4 := kc _ _ e4
      have d5 := kc _ _ e5
      have HVD := Lib.hid HVD0
      clear kc e0 e1 e2 e3 e4 e5 HVD0 hSg
      obtain ⟨F, af, an, az, aa, cf, cn, cs, ca, gF, hKF, hFb, hXb, hRb⟩ := hP.out.shape
      have HKF := Lib.hid hKF
      have HFB := Lib.hid hFb
      have HRB := Lib.hid hRb
      have hb1 := (Below.refl wr.heap.size wr).alloc (Nat.le_refl _) (.cells #[.int .i64 oo.kind, .string ⟨oo.name.toArray⟩, .string ⟨oo.dest.toArray⟩, .slice va vn vc, .int .i64 oo.n, .int .i64 oo.m] 37)
      have GA := Lib.hid (gF.beside hb1)
      have KA := Lib.hid (fun (q : Nat) (hq : F q) => hb1.block q (gF.lt hq))
      have XA := Lib.hid (hXb.kept (hb1.block _ (gF.lt hFb)))
      have SZ := Lib.hid (gF.lt hFb)
      have GF := Lib.hid gF
      have BXA := Lib.hid hb1
      have NEW := Lib.hid (new_five wr #[.int .i64 oo.kind, .string ⟨oo.name.toArray⟩, .string ⟨oo.dest.toArray⟩, .slice va vn vc, .int .i64 oo.n, .int .i64 oo.m] 37)
      clear hKF hFb hXb hRb hb1 gF
      go_upto_region 10 with fail
      obtain ⟨wA, hwA⟩ : ∃ x, wr.alloc (.cells #[.int .i64 oo.kind, .string ⟨oo.name.toArray⟩, .string ⟨oo.dest.toArray⟩, .slice va vn vc, .int .i64 oo.n, .int .i64 oo.m] 37) = x := ⟨_, rfl⟩
      rw [hwA] at GA KA XA NEW BXA ⊢
      have hzA : wA.heap.size = wr.heap.size + 1 := by rw [← hwA]; simp
      have HZA := Lib.hid hzA
      clear hwA d0 d1 d2 d3 d4 d5 hzA
      obtain ⟨q0, q1, q2, q3, q4, q5, q6⟩ := XA.out.cells
      have p0 : wA.cell? ⟨wr.heap.size, 0, none⟩ = some (.int .i64 oo.kind) := (cell_of_row _ _ _ _ _ _ NEW.out).trans rfl
      have p1 : wA.cell? ⟨wr.heap.size, 1, none⟩ = some (.string ⟨oo.name.toArray⟩) := (cell_of_row _ _ _ _ _ _ NEW.out).trans rfl
      have p2 : wA.cell? ⟨wr.heap.size, 2, none⟩ = some (.string ⟨oo.dest.toArray⟩) := (cell_of_row _ _ _ _ _ _ NEW.out).trans rfl
      have p3 : wA.cell? ⟨wr.heap.size, 3, none⟩ = some (.slice va vn vc) := (cell_of_row _ _ _ _ _ _ NEW.out).trans rfl
      have p4 : wA.cell? ⟨wr.heap.size, 4, none⟩ = some (.int .i64 oo.n) := (cell_of_row _ _ _ _ _ _ NEW.out).trans rfl
      have p5 : wA.cell? ⟨wr.heap.size, 5, none⟩ = some (.int .i64 oo.m) := (cell_of_row _ _ _ _ _ _ NEW.out).trans rfl
      have HST := Lib.hid (step_any GA.out HBD.out HE.out (fun q => F q ∧ q ≠ bw) (fun q hq => hq.1) (.agg (fsV (.slice af s.files.length cf) (.slice an s.now.length cn) (.slice az s.sure.length cs) (.slice aa s.acts.length ca) (s.room : Int) (s.steps : Int) (lim s))) ⟨_, _, _, _, rfl, HRB.out.kept (fun q hq => ⟨hq, KA.out q hq.1⟩)⟩ oo (.slice va vn vc) (HVD.out.kept (fun q hq => ⟨HKF.out q (HLOW.out q hq), (hP.out.below.trans (BXA.out.mono hP.out.below.size)).block q hq⟩)) HOO.out)
      unfold opRow fsV at HST
      go_wp2_with fail
      refine HST.out.mono ?_
      rintro e w5 ⟨v5, F5, rfl, inc5, g5, hv5, hz5, far5⟩
      obtain ⟨s5, hs5⟩ : ∃ q, (opS s oo).1 = q := ⟨_, rfl⟩
      rw [hs5] at g5 hv5
      have HS5 := Lib.hid hs5
      obtain ⟨af5, an5, az5, aa5, cf5, cn5, cs5, ca5, rfl, hR5⟩ := hv5.shape
      have INC5 := Lib.hid inc5
      have G5 := Lib.hid g5
      have HR5 := Lib.hid hR5
      have FAR5 := Lib.hid far5
      have X5 := Lib.hid (XA.out.kept (far5 _ HFB.out))
      have Z5 := Lib.hid hz5
      clear inc5 g5 hR5 far5 hz5 hs5 HST hv5 q0 q1 q2 q3 q4 q5 q6 p0 p1 p2 p3 p4 p5
      unfold fsV
      obtain ⟨q0, q1, q2, q3, q4, q5, q6⟩ := X5.out.cells
      have fq := X5.out.free
      go_upto_region 11 with fail
      obtain ⟨w6, hW⟩ : ∃ x, ((((((w5.setCell ⟨bw, 0, none⟩ (.slice af5 s5.files.length cf5)).setCell ⟨bw, 1, none⟩ (.slice an5 s5.now.length cn5)).setCell ⟨bw, 2, none⟩ (.slice az5 s5.sure.length cs5)).setCell ⟨bw, 3, none⟩ (.slice aa5 s5.acts.length ca5)).setCell ⟨bw, 4, none⟩ (.int .i64 (s5.room : Int))).setCell ⟨bw, 5, none⟩ (.int .i64 (s5.steps : Int))).setCell ⟨bw, 6, none⟩ (.int .i64 (lim s5)) = x := ⟨_, rfl⟩
      rw [hW]
      have hX5 := X5.out.blk
      unfold fsV at hX5
      have HP6 := Lib.hid (Pl.after hP.out HKF.out HFB.out GA.out KA.out INC5.out G5.out HR5.out FAR5.out hX5 hW)
      clear hW hX5 q0 q1 q2 q3 q4 q5 q6 fq
      go_wp2_with fail
      have hct := opS_count hC.out.2 oo
      rw [HS5.out] at hct
      exact ⟨⟨k + 1, by omega, by go_num, s5, HP6, Lib.hid ⟨by have := hC.out.1; omega, hct.2⟩⟩, by simp [intOf]; omega⟩
    · obtain ⟨F, af, an, az, aa, cf, cn, cs, ca, gF, hKF, hFb, hXb, hRb⟩ := hP.out.shape
      have hok := hP.out.ok
      have hst : s.steps ≤ 1048576 := by have := hC.out.1; omega
      have HSP := Lib.hid (g_stop gF 0 (by omega))
      have HKF := Lib.hid hKF
      have HFB := Lib.hid hFb
      have HXB := Lib.hid hXb
      have HRB := Lib.hid hRb
      clear hKF hFb hXb hRb
      go_wp2_with fail
      refine HSP.out.mono ?_
      rintro e w5 ⟨rfl, g5, hz5, hk5⟩
      have P6 := Lib.hid (hP.out.stopped 0 HKF.out HFB.out g5 hk5 HXB.out HRB.out (by omega))
      have X5 := Lib.hid (HXB.out.kept (hk5 _ HFB.out))
      have HST0 := Lib.hid hst
      clear g5 hz5 hk5 HSP HXB HRB HKF HFB gF hst hok hP
      obtain ⟨q0, q1, q2, q3, q4, q5, q6⟩ := X5.out.cells
      have fq := X5.out.free
      go_upto_region 14 with fail
      clear q0 q1 q2 q3 q4 q5 q6 fq X5
      generalize w5.setCell ⟨bw, 6, none⟩ (.int .i64 0) = w6 at *
      obtain ⟨t, ht⟩ : ∃ q, ({ s with more := 0 } : Fs) = q := ⟨_, rfl⟩
      rw [ht] at P6
      have HFL : Hid (t.steps ≤ 1048576 ∧ t.files.length ≤ t.steps ∧ t.more = 0) := Lib.hid (by rw [← ht]; exact ⟨HST0.out, hC.out.2, rfl⟩)
      clear ht hC HST0
      obtain ⟨F, af, an, az, aa, cf, cn, cs, ca, gF, hKF, hFb, hXb, hRb⟩ := P6.out.shape
      have G6 := Lib.hid gF
      have HKF := Lib.hid hKF
      have HFB := Lib.hid hFb
      have HXB := Lib.hid hXb
      have HRB := Lib.hid hRb
      have hst : t.steps ≤ 16777214 := by have := HFL.out.1; omega
      have HGS := Lib.hid (g_steps gF)
      clear hKF hFb hXb hRb gF
      go_wp2_with fail
      refine HGS.out.mono ?_
      rintro e w7 ⟨rfl, rfl⟩
      clear HGS
      have hfl : flushS t = (t, 190) := if_pos HFL.out.2.2
      have HFS := Lib.hid (g_flush G6.out hst)
      rw [hfl] at HFS
      clear hfl
      go_wp2_with fail
      refine HFS.out.mono ?_
      rintro e w8 ⟨rfl, g8, hz8, hk8⟩
      have P8 := Lib.hid (P6.out.still HKF.out HFB.out g8 hk8 HXB.out HRB.out)
      have G8 := Lib.hid g8
      have X8 := Lib.hid (HXB.out.kept (hk8 _ HFB.out))
      have R8 := Lib.hid (HRB.out.kept (fun q hq => ⟨hq, hk8 q hq.1⟩))
      clear g8 hz8 hk8 HFS P6 G6 HXB HRB
      have hck : checkN [112, 111, 119, 101, 114] = 0 := by decide +kernel
      by_cases hp : fnd t.now [112, 111, 119, 101, 114] ≠ none
      · have hcs : createS t [112, 111, 119, 101, 114] = (t, 5) := by unfold createS; rw [if_neg (by rw [hck]; simp), if_pos hp]
        have HCR : Hid (∀ W, FsG w F W bf t → Calls Tryz.prog 18 #[.pointer (some ⟨bf, 0, none⟩), .string ⟨#[112, 111, 119, 101, 114]⟩] W (GP w F W bf (.int .i64 5) t)) := Lib.hid (fun W g => by
          have h := g_create g hst HE.out [112, 111, 119, 101, 114] (by decide)
          rw [hcs] at h
          exact h)
        clear hcs hp hck
        have HC1 := Lib.hid (HCR.out w8 G8.out)
        go_wp2_with fail
        refine HC1.out.mono ?_
        rintro e w9 ⟨rfl, g9, hz9, hk9⟩
        have P9 := Lib.hid (P8.out.still HKF.out HFB.out g9 hk9 X8.out R8.out)
        have X9 := Lib.hid (X8.out.kept (hk9 _ HFB.out))
        have R9 := Lib.hid (R8.out.kept (fun q hq => ⟨hq, hk9 q hq.1⟩))
        have HC2 := Lib.hid (HCR.out w9 g9)
        clear g9 hz9 hk9 HC1 HCR P8 X8 R8
        go_wp2_with fail
        refine HC2.out.mono ?_
        rintro e w10 ⟨rfl, g10, hz10, hk10⟩
        have P10 := Lib.hid (P9.out.still HKF.out HFB.out g10 hk10 X9.out R9.out)
        clear g10 hz10 hk10 HC2 P9 X9 R9 HKF HFB G8
        have NEW10 := Lib.hid ((P10.out.keep _ (show w.heap.size < w1.heap.size by have := Z1.out; omega)).trans NEW4.out)
        have k0 : w10.cell? ⟨w.heap.size, 0, none⟩ = some (.int .i64 o.kind) := (cell_of_row _ _ _ _ _ _ NEW10.out).trans rfl
        have k1 : w10.cell? ⟨w.heap.size, 1, none⟩ = some (.string ⟨o.name.toArray⟩) := (cell_of_row _ _ _ _ _ _ NEW10.out).trans rfl
        have k2 : w10.cell? ⟨w.heap.size, 2, none⟩ = some (.string ⟨o.dest.toArray⟩) := (cell_of_row _ _ _ _ _ _ NEW10.out).trans rfl
        have k3 : w10.cell? ⟨w.heap.size, 3, none⟩ = some vd0 := (cell_of_row _ _ _ _ _ _ NEW10.out).trans rfl
        have k4 : w10.cell? ⟨w.heap.size, 4, none⟩ = some (.int .i64 o.n) := (cell_of_row _ _ _ _ _ _ NEW10.out).trans rfl
        have k5 : w10.cell? ⟨w.heap.size, 5, none⟩ = some (.int .i64 o.m) := (cell_of_row _ _ _ _ _ _ NEW10.out).trans rfl
        by_cases h7 : o.kind = 7
        · have y7 : (o.kind != 7) = false := by simp [h7]
          clear h7
          go_upto_region 19 with fail
          clear k0 k1 k2 k3 k4 k5
          obtain ⟨F, af, an, az, aa, cf, cn, cs, ca, gF, hKF, hFb, hXb, hRb⟩ := P10.out.shape
          have HBD : Hid (Bd t) := Lib.hid ⟨P10.out.ok, by have := HFL.out.1; omega, HFL.out.2.1⟩
          have HSM := Lib.hid (same_any gF HBD.out (fun q => F q ∧ q ≠ bw) _ ⟨_, _, _, _, rfl, hRb⟩ (fun q hq => gF.lt hq.1))
          unfold fsV at HSM
          have HGS := Lib.hid (fun (W : World) (hb : Below w10.heap.size w10 W) => g_steps (gF.beside hb))
          have BP := Lib.hid P10.out.below
          obtain ⟨q0, q1, q2, q3, q4, q5, q6⟩ := hXb.cells
          clear hKF hFb hXb hRb gF HBD
          go_wp2_with fail
          refine HSM.out.mono ?_
          rintro e w12 ⟨rfl, b12⟩
          have HG2 := Lib.hid (HGS.out w12 b12)
          have B12 := Lib.hid (BP.out.trans (b12.mono BP.out.size))
          clear HSM HGS BP b12 q0 q1 q2 q3 q4 q5 q6
          go_wp2_with fail
          refine HG2.out.mono ?_
          rintro e w13 ⟨rfl, rfl⟩
          go_wp2_with fail
          go_ret
          exact ⟨rfl, B12.out⟩
        have y7 : (o.kind != 7) = true := by simpa using h7
        by_cases h8 : o.kind = 8
        · have y8 : (o.kind != 8) = false := by simp [h8]
          clear h7 h8
          go_upto_region 19 with fail
          clear k0 k1 k2 k3 k4 k5
          obtain ⟨F, af, an, az, aa, cf, cn, cs, ca, gF, hKF, hFb, hXb, hRb⟩ := P10.out.shape
          have HBD : Hid (Bd t) := Lib.hid ⟨P10.out.ok, by have := HFL.out.1; omega, HFL.out.2.1⟩
          have HSM := Lib.hid (same_any gF HBD.out (fun q => F q ∧ q ≠ bw) _ ⟨_, _, _, _, rfl, hRb⟩ (fun q hq => gF.lt hq.1))
          unfold fsV at HSM
          have HGS := Lib.hid (fun (W : World) (hb : Below w10.heap.size w10 W) => g_steps (gF.beside hb))
          have BP := Lib.hid P10.out.below
          obtain ⟨q0, q1, q2, q3, q4, q5, q6⟩ := hXb.cells
          clear hKF hFb hXb hRb gF HBD
          go_wp2_with fail
          refine HSM.out.mono ?_
          rintro e w12 ⟨rfl, b12⟩
          have HG2 := Lib.hid (HGS.out w12 b12)
          have B12 := Lib.hid (BP.out.trans (b12.mono BP.out.size))
          clear HSM HGS BP b12 q0 q1 q2 q3 q4 q5 q6
          go_wp2_with fail
          refine HG2.out.mono ?_
          rintro e w13 ⟨rfl, rfl⟩
          go_wp2_with fail
          go_ret
          exact ⟨rfl, B12.out⟩
        have y8 : (o.kind != 8) = true := by simpa using h8
        have HSO := Lib.hid (opS_stopped HFL.out.2.2 o h7 h8)
        obtain ⟨F, af, an, az, aa, cf, cn, cs, ca, gF, hKF, hFb, hXb, hRb⟩ := P10.out.shape
        have HKF := Lib.hid hKF
        have HFB := Lib.hid hFb
        have HST := Lib.hid (step_any gF (⟨P10.out.ok, by have := HFL.out.1; omega, HFL.out.2.1⟩ : Bd t) HE.out (fun q => F q ∧ q ≠ bw) (fun q hq => hq.1) (.agg (fsV (.slice af t.files.length cf) (.slice an t.now.length cn) (.slice az t.sure.length cs) (.slice aa t.acts.length ca) (t.room : Int) (t.steps : Int) (lim t))) ⟨_, _, _, _, rfl, hRb⟩ o vd0 (HD0.out.kept (fun q hq => ⟨HKF.out q (HLOW.out q hq), P10.out.below.block q hq⟩)) HO.out)
        rw [HSO.out] at HST
        unfold opRow fsV at HST
        have GF := Lib.hid gF
        have HXB := Lib.hid hXb
        obtain ⟨q0, q1, q2, q3, q4, q5, q6⟩ := hXb.cells
        clear h7 h8 hKF hFb hXb hRb gF
        go_wp2_with fail
        refine HST.out.mono ?_
        rintro e w5 ⟨v5, F5, rfl, inc5, g5, hv5, hz5, far5⟩
        obtain ⟨af5, an5, az5, aa5, cf5, cn5, cs5, ca5, rfl, hR5⟩ := hv5.shape
        have INC5 := Lib.hid inc5
        have G5 := Lib.hid g5
        have HR5 := Lib.hid hR5
        have FAR5 := Lib.hid far5
        have X5 := Lib.hid (HXB.out.kept (far5 _ HFB.out))
        clear inc5 g5 hR5 far5 hz5 HST hv5 q0 q1 q2 q3 q4 q5 q6 k0 k1 k2 k3 k4 k5
        unfold fsV
        obtain ⟨q0, q1, q2, q3, q4, q5, q6⟩ := X5.out.cells
        have fq := X5.out.free
        go_upto_region 19 with fail
        obtain ⟨w6, hW⟩ : ∃ x, ((((((w5.setCell ⟨bw, 0, none⟩ (.slice af5 t.files.length cf5)).setCell ⟨bw, 1, none⟩ (.slice an5 t.now.length cn5)).setCell ⟨bw, 2, none⟩ (.slice az5 t.sure.length cs5)).setCell ⟨bw, 3, none⟩ (.slice aa5 t.acts.length ca5)).setCell ⟨bw, 4, none⟩ (.int .i64 (t.room : Int))).setCell ⟨bw, 5, none⟩ (.int .i64 (t.steps : Int))).setCell ⟨bw, 6, none⟩ (.int .i64 (lim t)) = x := ⟨_, rfl⟩
        rw [hW]
        have hX5 := X5.out.blk
        unfold fsV at hX5
        have P11 := Lib.hid (Pl.after P10.out HKF.out HFB.out GF.out (fun _ _ => rfl) INC5.out G5.out HR5.out FAR5.out hX5 hW)
        clear hW hX5 q0 q1 q2 q3 q4 q5 q6 fq P10
        obtain ⟨F, af, an, az, aa, cf, cn, cs, ca, gF, hKF, hFb, hXb, hRb⟩ := P11.out.shape
        have HBD : Hid (Bd t) := Lib.hid ⟨P11.out.ok, by have := HFL.out.1; omega, HFL.out.2.1⟩
        have HSM := Lib.hid (same_any gF HBD.out (fun q => F q ∧ q ≠ bw) _ ⟨_, _, _, _, rfl, hRb⟩ (fun q hq => gF.lt hq.1))
        unfold fsV at HSM
        have HGS := Lib.hid (fun (W : World) (hb : Below w6.heap.size w6 W) => g_steps (gF.beside hb))
        have BP := Lib.hid P11.out.below
        obtain ⟨q0, q1, q2, q3, q4, q5, q6⟩ := hXb.cells
        clear hKF hFb hXb hRb gF HBD
        go_wp2_with fail
        refine HSM.out.mono ?_
        rintro e w12 ⟨rfl, b12⟩
        have HG2 := Lib.hid (HGS.out w12 b12)
        have B12 := Lib.hid (BP.out.trans (b12.mono BP.out.size))
        clear HSM HGS BP b12 q0 q1 q2 q3 q4 q5 q6
        go_wp2_with fail
        refine HG2.out.mono ?_
        rintro e w13 ⟨rfl, rfl⟩
        go_wp2_with fail
        go_ret
        exact ⟨rfl, B12.out⟩
      · have hcs : createS t [112, 111, 119, 101, 114] = (t, 190) := by unfold createS; rw [if_neg (by rw [hck]; simp), if_neg hp, if_pos HFL.out.2.2]
        have HC1 : Hid (Calls Tryz.prog 18 #[.pointer (some ⟨bf, 0, none⟩), .string ⟨#[112, 111, 119, 101, 114]⟩] w8 (GP w F w8 bf (.int .i64 190) t)) := Lib.hid (by
          have h := g_create G8.out hst HE.out [112, 111, 119, 101, 114] (by decide)
          rw [hcs] at h
          exact h)
        clear hcs hp hck
        go_wp2_with fail
        refine HC1.out.mono ?_
        rintro e w10 ⟨rfl, g10, hz10, hk10⟩
        have P10 := Lib.hid (P8.out.still HKF.out HFB.out g10 hk10 X8.out R8.out)
        clear g10 hz10 hk10 HC1 P8 X8 R8 HKF HFB G8
        have NEW10 := Lib.hid ((P10.out.keep _ (show w.heap.size < w1.heap.size by have := Z1.out; omega)).trans NEW4.out)
        have k0 : w10.cell? ⟨w.heap.size, 0, none⟩ = some (.int .i64 o.kind) := (cell_of_row _ _ _ _ _ _ NEW10.out).trans rfl
        have k1 : w10.cell? ⟨w.heap.size, 1, none⟩ = some (.string ⟨o.name.toArray⟩) := (cell_of_row _ _ _ _ _ _ NEW10.out).trans rfl
        have k2 : w10.cell? ⟨w.heap.size, 2, none⟩ = some (.string ⟨o.dest.toArray⟩) := (cell_of_row _ _ _ _ _ _ NEW10.out).trans rfl
        have k3 : w10.cell? ⟨w.heap.size, 3, none⟩ = some vd0 := (cell_of_row _ _ _ _ _ _ NEW10.out).trans rfl
        have k4 : w10.cell? ⟨w.heap.size, 4, none⟩ = some (.int .i64 o.n) := (cell_of_row _ _ _ _ _ _ NEW10.out).trans rfl
        have k5 : w10.cell? ⟨w.heap.size, 5, none⟩ = some (.int .i64 o.m) := (cell_of_row _ _ _ _ _ _ NEW10.out).trans rfl
        by_cases h7 : o.kind = 7
        · have y7 : (o.kind != 7) = false := by simp [h7]
          clear h7
          go_upto_region 19 with fail
          clear k0 k1 k2 k3 k4 k5
          obtain ⟨F, af, an, az, aa, cf, cn, cs, ca, gF, hKF, hFb, hXb, hRb⟩ := P10.out.shape
          have HBD : Hid (Bd t) := Lib.hid ⟨P10.out.ok, by have := HFL.out.1; omega, HFL.out.2.1⟩
          have HSM := Lib.hid (same_any gF HBD.out (fun q => F q ∧ q ≠ bw) _ ⟨_, _, _, _, rfl, hRb⟩ (fun q hq => gF.lt hq.1))
          unfold fsV at HSM
          have HGS := Lib.hid (fun (W : World) (hb : Below w10.heap.size w10 W) => g_steps (gF.beside hb))
          have BP := Lib.hid P10.out.below
          obtain ⟨q0, q1, q2, q3, q4, q5, q6⟩ := hXb.cells
          clear hKF hFb hXb hRb gF HBD
          go_wp2_with fail
          refine HSM.out.mono ?_
          rintro e w12 ⟨rfl, b12⟩
          have HG2 := Lib.hid (HGS.out w12 b12)
          have B12 := Lib.hid (BP.out.trans (b12.mono BP.out.size))
          clear HSM HGS BP b12 q0 q1 q2 q3 q4 q5 q6
          go_wp2_with fail
          refine HG2.out.mono ?_
          rintro e w13 ⟨rfl, rfl⟩
          go_wp2_with fail
          go_ret
          exact ⟨rfl, B12.out⟩
        have y7 : (o.kind != 7) = true := by simpa using h7
        by_cases h8 : o.kind = 8
        · have y8 : (o.kind != 8) = false := by simp [h8]
          clear h7 h8
          go_upto_region 19 with fail
          clear k0 k1 k2 k3 k4 k5
          obtain ⟨F, af, an, az, aa, cf, cn, cs, ca, gF, hKF, hFb, hXb, hRb⟩ := P10.out.shape
          have HBD : Hid (Bd t) := Lib.hid ⟨P10.out.ok, by have := HFL.out.1; omega, HFL.out.2.1⟩
          have HSM := Lib.hid (same_any gF HBD.out (fun q => F q ∧ q ≠ bw) _ ⟨_, _, _, _, rfl, hRb⟩ (fun q hq => gF.lt hq.1))
          unfold fsV at HSM
          have HGS := Lib.hid (fun (W : World) (hb : Below w10.heap.size w10 W) => g_steps (gF.beside hb))
          have BP := Lib.hid P10.out.below
          obtain ⟨q0, q1, q2, q3, q4, q5, q6⟩ := hXb.cells
          clear hKF hFb hXb hRb gF HBD
          go_wp2_with fail
          refine HSM.out.mono ?_
          rintro e w12 ⟨rfl, b12⟩
          have HG2 := Lib.hid (HGS.out w12 b12)
          have B12 := Lib.hid (BP.out.trans (b12.mono BP.out.size))
          clear HSM HGS BP b12 q0 q1 q2 q3 q4 q5 q6
          go_wp2_with fail
          refine HG2.out.mono ?_
          rintro e w13 ⟨rfl, rfl⟩
          go_wp2_with fail
          go_ret
          exact ⟨rfl, B12.out⟩
        have y8 : (o.kind != 8) = true := by simpa using h8
        have HSO := Lib.hid (opS_stopped HFL.out.2.2 o h7 h8)
        obtain ⟨F, af, an, az, aa, cf, cn, cs, ca, gF, hKF, hFb, hXb, hRb⟩ := P10.out.shape
        have HKF := Lib.hid hKF
        have HFB := Lib.hid hFb
        have HST := Lib.hid (step_any gF (⟨P10.out.ok, by have := HFL.out.1; omega, HFL.out.2.1⟩ : Bd t) HE.out (fun q => F q ∧ q ≠ bw) (fun q hq => hq.1) (.agg (fsV (.slice af t.files.length cf) (.slice an t.now.length cn) (.slice az t.sure.length cs) (.slice aa t.acts.length ca) (t.room : Int) (t.steps : Int) (lim t))) ⟨_, _, _, _, rfl, hRb⟩ o vd0 (HD0.out.kept (fun q hq => ⟨HKF.out q (HLOW.out q hq), P10.out.below.block q hq⟩)) HO.out)
        rw [HSO.out] at HST
        unfold opRow fsV at HST
        have GF := Lib.hid gF
        have HXB := Lib.hid hXb
        obtain ⟨q0, q1, q2, q3, q4, q5, q6⟩ := hXb.cells
        clear h7 h8 hKF hFb hXb hRb gF
        go_wp2_with fail
        refine HST.out.mono ?_
        rintro e w5 ⟨v5, F5, rfl, inc5, g5, hv5, hz5, far5⟩
        obtain ⟨af5, an5, az5, aa5, cf5, cn5, cs5, ca5, rfl, hR5⟩ := hv5.shape
        have INC5 := Lib.hid inc5
        have G5 := Lib.hid g5
        have HR5 := Lib.hid hR5
        have FAR5 := Lib.hid far5
        have X5 := Lib.hid (HXB.out.kept (far5 _ HFB.out))
        clear inc5 g5 hR5 far5 hz5 HST hv5 q0 q1 q2 q3 q4 q5 q6 k0 k1 k2 k3 k4 k5
        unfold fsV
        obtain ⟨q0, q1, q2, q3, q4, q5, q6⟩ := X5.out.cells
        have fq := X5.out.free
        go_upto_region 19 with fail
        obtain ⟨w6, hW⟩ : ∃ x, ((((((w5.setCell ⟨bw, 0, none⟩ (.slice af5 t.files.length cf5)).setCell ⟨bw, 1, none⟩ (.slice an5 t.now.length cn5)).setCell ⟨bw, 2, none⟩ (.slice az5 t.sure.length cs5)).setCell ⟨bw, 3, none⟩ (.slice aa5 t.acts.length ca5)).setCell ⟨bw, 4, none⟩ (.int .i64 (t.room : Int))).setCell ⟨bw, 5, none⟩ (.int .i64 (t.steps : Int))).setCell ⟨bw, 6, none⟩ (.int .i64 (lim t)) = x := ⟨_, rfl⟩
        rw [hW]
        have hX5 := X5.out.blk
        unfold fsV at hX5
        have P11 := Lib.hid (Pl.after P10.out HKF.out HFB.out GF.out (fun _ _ => rfl) INC5.out G5.out HR5.out FAR5.out hX5 hW)
        clear hW hX5 q0 q1 q2 q3 q4 q5 q6 fq P10
        obtain ⟨F, af, an, az, aa, cf, cn, cs, ca, gF, hKF, hFb, hXb, hRb⟩ := P11.out.shape
        have HBD : Hid (Bd t) := Lib.hid ⟨P11.out.ok, by have := HFL.out.1; omega, HFL.out.2.1⟩
        have HSM := Lib.hid (same_any gF HBD.out (fun q => F q ∧ q ≠ bw) _ ⟨_, _, _, _, rfl, hRb⟩ (fun q hq => gF.lt hq.1))
        unfold fsV at HSM
        have HGS := Lib.hid (fun (W : World) (hb : Below w6.heap.size w6 W) => g_steps (gF.beside hb))
        have BP := Lib.hid P11.out.below
        obtain ⟨q0, q1, q2, q3, q4, q5, q6⟩ := hXb.cells
        clear hKF hFb hXb hRb gF HBD
        go_wp2_with fail
        refine HSM.out.mono ?_
        rintro e w12 ⟨rfl, b12⟩
        have HG2 := Lib.hid (HGS.out w12 b12)
        have B12 := Lib.hid (BP.out.trans (b12.mono BP.out.size))
        clear HSM HGS BP b12 q0 q1 q2 q3 q4 q5 q6
        go_wp2_with fail
        refine HG2.out.mono ?_
        rintro e w13 ⟨rfl, rfl⟩
        go_wp2_with fail
        go_ret
        exact ⟨rfl, B12.out⟩
end Go.Proofs.YtjefcalndfcmdaaGreatDoor
