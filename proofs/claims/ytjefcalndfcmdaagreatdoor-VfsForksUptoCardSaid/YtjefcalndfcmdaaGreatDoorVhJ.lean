/- The law: a fork has the same files, all of them durable, and goes on by itself (VfsForks). -/
import Derived.Test.YtjefcalndfcmdaaGreatDoorVhI
namespace Go.Proofs.YtjefcalndfcmdaaGreatDoor
open Go.RowKit Go.Maps
attribute [local go_sem ↓] Go.wp_at_zero Go.wp_at_succ
set_option maxRecDepth 100000 in
set_option maxHeartbeats 16000000 in
theorem forks_law (v1 v2 : Value) (l m : List OpL) (w : World) (hv : OpsC (fun k => k < w.heap.size) w v1 l) (hv2 : OpsC (fun k => k < w.heap.size) w v2 m) (hl : l.length ≤ 1048576) (hl2 : m.length ≤ 1048576) (hok : ∀ e ∈ l, OpOk e) (hok2 : ∀ e ∈ m, OpOk e) (hE : PEnv w) :
    Calls Tryz.prog 4 #[v1, v2] w (TrueV w) := by
  obtain ⟨sa, sc, rfl⟩ := RowsC.shape hv
  obtain ⟨sa2, sc2, rfl⟩ := RowsC.shape hv2
  have HV := Lib.hid hv
  have HV2 := Lib.hid hv2
  have HOK := Lib.hid hok
  have HOK2 := Lib.hid hok2
  have HE := Lib.hid hE
  clear hv hv2 hok hok2 hE
  go_enter Tryz.func4, Tryz.ntmps4
  go_wp2_with fail
  refine (awake_any w HE.out).mono ?_
  rintro e w1 ⟨rfl, b1⟩
  have B1 := Lib.hid b1
  have Z1 := Lib.hid b1.size
  clear b1
  have HN := Lib.hid (g_new B1.out 2000 (by omega))
  go_wp2_with fail
  refine HN.out.mono ?_
  rintro e w2 ⟨bf, rfl, g2, b2⟩
  have G2 := Lib.hid g2
  have B2 := Lib.hid b2
  clear g2 b2 HN
  have HNR := Lib.hid (rnew_any 2000 w2)
  unfold fsV at HNR
  go_wp2_with fail
  refine HNR.out.mono ?_
  rintro e w3 ⟨rfl, b3⟩
  have HP0 := Lib.hid (Pl.begin G2.out b3 B2.out.size)
  have BC3 := Lib.hid (B2.out.trans (b3.mono B2.out.size))
  clear HNR G2 B2 b3
  unfold fsV at HP0
  go_upto_region 7 with fail
  obtain ⟨w4, hw4⟩ : ∃ x, (w3.alloc (.cells #[.slice none 0 0, .slice none 0 0, .slice none 0 0, .slice none 0 0, .int .i64 2000, .int .i64 0, .int .i64 (-1)] 33)) = x := ⟨_, rfl⟩
  have HP0' : Hid (Pl w w4 w4 (fun q => q < w1.heap.size) bf w3.heap.size (newS 2000)) := Lib.hid (by rw [← hw4]; exact HP0.out)
  rw [hw4]
  clear hw4 HP0 BC3
  obtain ⟨bw, hbw⟩ : ∃ x, w3.heap.size = x := ⟨_, rfl⟩
  rw [hbw] at HP0' ⊢
  clear hbw
  have HLOW : Hid (∀ q, q < w.heap.size → q < w1.heap.size) := Lib.hid (fun q hq => by have := Z1.out; omega)
  go_wp2_with fail
  go_loopw [25] (fun i wr => ∃ k : Nat, k ≤ l.length ∧ i = .int .i64 (k : Int) ∧ ∃ s, Hid (Pl w w4 wr (fun q => q < w1.heap.size) bf bw s) ∧ Hid (s.steps ≤ k ∧ s.files.length ≤ s.steps)) (fun i _ => l.length - (intOf i).toNat)
  case atStart => exact ⟨0, Nat.zero_le _, rfl, newS 2000, HP0', Lib.hid ⟨Nat.le_refl _, Nat.le_refl _⟩⟩
  case round =>
    obtain ⟨k, hk, rfl, s, hP, hC⟩ := hrel
    have HBD : Hid (Bd s) := Lib.hid ⟨hP.out.ok, by have := hC.out.1; omega, hC.out.2⟩
    by_cases hlt : k < l.length
    · obtain ⟨g1, o1, haddr, hSg, hat⟩ := OpsC.at HV.out (by omega)
      subst haddr
      obtain ⟨vd, HVD0, e0, e1, e2, e3, e4, e5⟩ := hat k _ (List.getElem?_eq_getElem (show k < l.length by omega))
      obtain ⟨va, vn, vc, rfl⟩ := bytes_slice HVD0
      have hoo : OpOk l[k] := HOK.out _ (List.getElem_mem _)
      obtain ⟨oo, hoe⟩ : ∃ q, l[k] = q := ⟨_, rfl⟩
      have HOE := Lib.hid hoe
      rw [hoe] at HVD0 e0 e1 e2 e4 e5 hoo
      have HOO := Lib.hid hoo
      clear hoe hat hoo
      have kc : ∀ (p : Nat) (u : Value), w.cell? ⟨g1, p, none⟩ = some u → wr.cell? ⟨g1, p, none⟩ = some u := fun p u hu => (hP.out.below.cell (p := ⟨g1, p, none⟩) hSg).trans hu
      have d0 := kc _ _ e0
      have d1 := kc _ _ e1
      have d2 := kc _ _ e2
      have d3 := kc _ _ e3
      have d4 := kc _ _ e4
      have d5 := kc _ _ e5
      have HVD := Lib.hid HVD0
      clear kc e0 e1 e2 e3 e4 e5 HVD0 hSg
      obtain ⟨F, af, an, az, aa, cf, cn, cs, ca, gF, hKF, hFb, hXb, hRb⟩ := hP.out.shape
      have HKF := Lib.hid hKF
      have HFB := Lib.hid hFb
      have HRB := Lib.hid hRb
      have hb1 := (Below.refl wr.heap.size wr).alloc (Nat.le_refl _) (.cells #[.int .i64 oo.kind, .string ⟨oo.name.toArray⟩, .string ⟨oo.dest.toArray⟩, .slice va vn vc, .int .i64 oo.n, .int .i64 oo.m] 37)
      have GA := Lib.hid (gF.beside hb1)
      have KA := Lib.hid (fun (q : Nat) (hq : F q) => hb1.block q (gF.lt hq))
      have XA := Lib.hid (hXb.kept (hb1.block _ (gF.lt hFb)))
      have SZ := Lib.hid (gF.lt hFb)
      have GF := Lib.hid gF
      have BXA := Lib.hid hb1
      have NEW := Lib.hid (new_five wr #[.int .i64 oo.kind, .string ⟨oo.name.toArray⟩, .string ⟨oo.dest.toArray⟩, .slice va vn vc, .int .i64 oo.n, .int .i64 oo.m] 37)
      clear hKF hFb hXb hRb hb1 gF
      go_upto_region 10 with fail
      obtain ⟨wA, hwA⟩ : ∃ x, wr.alloc (.cells #[.int .i64 oo.kind, .string ⟨oo.name.toArray⟩, .string ⟨oo.dest.toArray⟩, .slice va vn vc, .int .i64 oo.n, .int .i64 oo.m] 37) = x := ⟨_, rfl⟩
      rw [hwA] at GA KA XA NEW BXA ⊢
      have hzA : wA.heap.size = wr.heap.size + 1 := by rw [← hwA]; simp
      have HZA := Lib.hid hzA
      clear hwA d0 d1 d2 d3 d4 d5 hzA
      obtain ⟨q0, q1, q2, q3, q4, q5, q6⟩ := XA.out.cells
      have p0 : wA.cell? ⟨wr.heap.size, 0, none⟩ = some (.int .i64 oo.kind) := (cell_of_row _ _ _ _ _ _ NEW.out).trans rfl
      have p1 : wA.cell? ⟨wr.heap.size, 1, none⟩ = some (.string ⟨oo.name.toArray⟩) := (cell_of_row _ _ _ _ _ _ NEW.out).trans rfl
      have p2 : wA.cell? ⟨wr.heap.size, 2, none⟩ = some (.string ⟨oo.dest.toArray⟩) := (cell_of_row _ _ _ _ _ _ NEW.out).trans rfl
      have p3 : wA.cell? ⟨wr.heap.size, 3, none⟩ = some (.slice va vn vc) := (cell_of_row _ _ _ _ _ _ NEW.out).trans rfl
      have p4 : wA.cell? ⟨wr.heap.size, 4, none⟩ = some (.int .i64 oo.n) := (cell_of_row _ _ _ _ _ _ NEW.out).trans rfl
      have p5 : wA.cell? ⟨wr.heap.size, 5, none⟩ = some (.int .i64 oo.m) := (cell_of_row _ _ _ _ _ _ NEW.out).trans rfl
      have HST := Lib.hid (step_any GA.out HBD.out HE.out (fun q => F q ∧ q ≠ bw) (fun q hq => hq.1) (.agg (fsV (.slice af s.files.length cf) (.slice an s.now.length cn) (.slice az s.sure.length cs) (.slice aa s.acts.length ca) (s.room : Int) (s.steps : Int) (lim s))) ⟨_, _, _, _, rfl, HRB.out.kept (fun q hq => ⟨hq, KA.out q hq.1⟩)⟩ oo (.slice va vn vc) (HVD.out.kept (fun q hq => ⟨HKF.out q (HLOW.out q hq), (hP.out.below.trans (BXA.out.mono hP.out.below.size)).block q hq⟩)) HOO.out)
      unfold opRow fsV at HST
      go_wp2_with fail
      refine HST.out.mono ?_
      rintro e w5 ⟨v5, F5, rfl, inc5, g5, hv5, hz5, far5⟩
      obtain ⟨s5, hs5⟩ : ∃ q, (opS s oo).1 = q := ⟨_, rfl⟩
      rw [hs5] at g5 hv5
      have HS5 := Lib.hid hs5
      obtain ⟨af5, an5, az5, aa5, cf5, cn5, cs5, ca5, rfl, hR5⟩ := hv5.shape
      have INC5 := Lib.hid inc5
      have G5 := Lib.hid g5
      have HR5 := Lib.hid hR5
      have FAR5 := Lib.hid far5
      have X5 := Lib.hid (XA.out.kept (far5 _ HFB.out))
      have Z5 := Lib.hid hz5
      clear inc5 g5 hR5 far5 hz5 hs5 HST hv5 q0 q1 q2 q3 q4 q5 q6 p0 p1 p2 p3 p4 p5
      unfold fsV
      obtain ⟨q0, q1, q2, q3, q4, q5, q6⟩ := X5.out.cells
      have fq := X5.out.free
      go_upto_region 11 with fail
      obtain ⟨w6, hW⟩ : ∃ x, ((((((w5.setCell ⟨bw, 0, none⟩ (.slice af5 s5.files.length cf5)).setCell ⟨bw, 1, none⟩ (.slice an5 s5.now.length cn5)).setCell ⟨bw, 2, none⟩ (.slice az5 s5.sure.length cs5)).setCell ⟨bw, 3, none⟩ (.slice aa5 s5.acts.length ca5)).setCell ⟨bw, 4, none⟩ (.int .i64 (s5.room : Int))).setCell ⟨bw, 5, none⟩ (.int .i64 (s5.steps : Int))).setCell ⟨bw, 6, none⟩ (.int .i64 (lim s5)) = x := ⟨_, rfl⟩
      rw [hW]
      have hX5 := X5.out.blk
      unfold fsV at hX5
      have HP6 := Lib.hid (Pl.after hP.out HKF.out HFB.out GA.out KA.out INC5.out G5.out HR5.out FAR5.out hX5 hW)
      clear hW hX5 q0 q1 q2 q3 q4 q5 q6 fq
      go_wp2_with fail
      have hct := opS_count hC.out.2 oo
      rw [HS5.out] at hct
      exact ⟨⟨k + 1, by omega, by go_num, s5, HP6, Lib.hid ⟨by have := hC.out.1; omega, hct.2⟩⟩, by simp [intOf]; omega⟩
    · obtain ⟨wE, hwE⟩ : ∃ x, x = wr := ⟨_, rfl⟩
      subst hwE
      have hst : s.steps ≤ 1048576 := by have := hC.out.1; omega
      have HCT : Hid (s.steps ≤ 1048576 ∧ s.files.length ≤ s.steps) := Lib.hid ⟨hst, hC.out.2⟩
      clear hC hst
      obtain ⟨F, af, an, az, aa, cf, cn, cs, ca, gF, hKF, hFb, hXb, hRb⟩ := hP.out.shape
      have hnl : s.now.length ≤ 1048576 := Nat.le_trans hP.out.ok.nowLen HCT.out.1
      have HNL := Lib.hid hnl
      obtain ⟨X, hX, hXF⟩ := gF.ex
      have HFK := Lib.hid (fork_any hX hP.out.ok (by have := HCT.out.1; omega))
      have HGF := Lib.hid gF
      have HKF := Lib.hid hKF
      have HFB := Lib.hid hFb
      have HXB := Lib.hid hXb
      have HRB := Lib.hid hRb
      have HLW := Lib.hid hP.out.low
      clear hX hXF gF hKF hFb hXb hRb hnl
      go_wp2_with fail
      refine HFK.out.mono ?_
      rintro e w5 ⟨X5, bg, rfl, h5, _, b5⟩
      have FK5 : Hid (FkS wE.heap.size w5 bg (forkS s)) := Lib.hid ⟨⟨X5, h5⟩, forkS_ok hP.out.ok, b5.size⟩
      have C5 := Lib.hid b5
      clear h5 b5 HFK
      -- the file system, the box and the rows while only new blocks are made
      have HXX := Lib.hid (fun (W : World) (b : Below wE.heap.size wE W) => HXB.out.kept (b.block _ (HGF.out.lt HFB.out)))
      have HRR := Lib.hid (fun (W : World) (b : Below wE.heap.size wE W) => HRB.out.kept (S' := fun q => F q ∧ q ≠ bw) (w' := W) (fun q hq => ⟨hq, b.block q (HGF.out.lt hq.1)⟩))
      have HSL := Lib.hid (fun (W : World) (b : Below wE.heap.size wE W) (q : Nat) (hq : F q ∧ q ≠ bw) => Nat.lt_of_lt_of_le (HGF.out.lt hq.1) b.size)
      have HSM := Lib.hid (fun (W : World) (b : Below wE.heap.size wE W) (p : Fs) (hf : FkS wE.heap.size W bg p) (ha : Agree p s) (hp : p.steps ≤ 16777214) => same_two hf.g ha hp HBD.out (fun q => F q ∧ q ≠ bw) _ ⟨_, _, _, _, rfl, HRR.out W b⟩ (HSL.out W b))
      unfold fsV at HSM
      have HS5 := Lib.hid (HSM.out w5 C5.out (forkS s) FK5.out (fork_agree s) (by show s.now.length ≤ _; have := HNL.out; omega))
      obtain ⟨q0, q1, q2, q3, q4, q5, q6⟩ := (HXX.out w5 C5.out).cells
      go_wp2_with fail
      refine HS5.out.mono ?_
      rintro e w6 ⟨rfl, b6⟩
      have C6 := Lib.hid (C5.out.trans (b6.mono C5.out.size))
      have FK6 := Lib.hid (FK5.out.kept (fun k _ h => b6.block k h) b6.size)
      clear q0 q1 q2 q3 q4 q5 q6 b6 HS5 FK5 C5
      have HCR := Lib.hid (FK6.out.crash (by show s.now.length ≤ _; have := HNL.out; omega) 0 0)
      go_wp2_with fail
      refine HCR.out.mono ?_
      rintro e w7 ⟨rfl, f7, b7⟩
      have FK7 := Lib.hid f7
      have C7 := Lib.hid (C6.out.trans b7)
      clear f7 b7 HCR FK6 C6
      have hpa := fork_crash s
      have hps : stV (crashS (forkS s) 0 0) = 0 := forkS_st (by have := HNL.out; omega)
      have hpl : (crashS (forkS s) 0 0).steps ≤ 16777214 := by show s.now.length ≤ _; have := HNL.out; omega
      obtain ⟨p, hp⟩ : ∃ q, crashS (forkS s) 0 0 = q := ⟨_, rfl⟩
      rw [hp] at FK7 hpa hps hpl
      have HPA := Lib.hid hpa
      have HPS := Lib.hid hps
      have HPL := Lib.hid hpl
      clear hpa hps hpl hp
      have HS7 := Lib.hid (HSM.out w7 C7.out p FK7.out HPA.out HPL.out)
      obtain ⟨q0, q1, q2, q3, q4, q5, q6⟩ := (HXX.out w7 C7.out).cells
      go_wp2_with fail
      refine HS7.out.mono ?_
      rintro e w8 ⟨rfl, b8⟩
      have C8 := Lib.hid (C7.out.trans (b8.mono C7.out.size))
      have FK8 := Lib.hid (FK7.out.kept (fun k _ h => b8.block k h) b8.size)
      clear q0 q1 q2 q3 q4 q5 q6 b8 HS7 FK7 C7
      have HST := g_steps FK8.out.g
      rw [HPS.out] at HST
      have HST2 := Lib.hid HST
      clear HST
      go_wp2_with fail
      refine HST2.out.mono ?_
      rintro e w9 ⟨rfl, rfl⟩
      clear HST2
      obtain ⟨q0, q1, q2, q3, q4, q5, q6⟩ := (HXX.out _ C8.out).cells
      go_upto_region 19 with fail
      have HP9 := Lib.hid (Pl.copy HGF.out C8.out HRB.out)
      have N9 := Lib.hid (fun (q : Nat) (hq : q < w8.heap.size) => Below.heap_alloc w8 (.cells (fsV (.slice af s.files.length cf) (.slice an s.now.length cn) (.slice az s.sure.length cs) (.slice aa s.acts.length ca) (s.room : Int) (s.steps : Int) (lim s)) 33) q hq)
      unfold fsV at HP9 N9
      obtain ⟨w9, hw9⟩ : ∃ x, (w8.alloc (.cells #[.slice af s.files.length cf, .slice an s.now.length cn, .slice az s.sure.length cs, .slice aa s.acts.length ca, .int .i64 (s.room : Int), .int .i64 (s.steps : Int), .int .i64 (lim s)] 33)) = x := ⟨_, rfl⟩
      have HP9' : Hid (Pl w w9 w9 (fun q => F q ∨ (wE.heap.size ≤ q ∧ q < w8.heap.size)) bf w8.heap.size s) := Lib.hid (by rw [← hw9]; exact HP9.out)
      rw [hw9] at N9 ⊢
      clear hw9 HP9 q0 q1 q2 q3 q4 q5 q6
      obtain ⟨bx, hbx⟩ : ∃ x, w8.heap.size = x := ⟨_, rfl⟩
      have HBX := Lib.hid hbx
      rw [hbx] at HP9' N9 ⊢
      clear hbx
      have HLOW2 : Hid (∀ q, q < w.heap.size → (F q ∨ (wE.heap.size ≤ q ∧ q < bx))) := Lib.hid (fun q hq => Or.inl (HKF.out q (HLOW.out q hq)))
      have HBDS := HBD
      have HPE := hP
      clear HBD hP HP0' HLOW
      go_wp2_with fail
      go_loopw [61] (fun i wr => ∃ k : Nat, k ≤ m.length ∧ i = .int .i64 (k : Int) ∧ ∃ t, Hid (Pl w w9 wr (fun q => F q ∨ (wE.heap.size ≤ q ∧ q < bx)) bf bx t) ∧ Hid (t.steps ≤ k + 1048576 ∧ t.files.length ≤ t.steps)) (fun i _ => m.length - (intOf i).toNat)
      case atStart => exact ⟨0, Nat.zero_le _, rfl, s, HP9', Lib.hid ⟨by have := HCT.out.1; omega, HCT.out.2⟩⟩
      case round =>
        obtain ⟨k, hk, rfl, t, hP, hC⟩ := hrel
        have HBD : Hid (Bd t) := Lib.hid ⟨hP.out.ok, by have := hC.out.1; omega, hC.out.2⟩
        by_cases hlt : k < m.length
        · obtain ⟨g1, o1, haddr, hSg, hat⟩ := OpsC.at HV2.out (by omega)
          subst haddr
          obtain ⟨vd, HVD0, e0, e1, e2, e3, e4, e5⟩ := hat k _ (List.getElem?_eq_getElem (show k < m.length by omega))
          obtain ⟨va, vn, vc, rfl⟩ := bytes_slice HVD0
          have hoo : OpOk m[k] := HOK2.out _ (List.getElem_mem _)
          obtain ⟨oo, hoe⟩ : ∃ q, m[k] = q := ⟨_, rfl⟩
          have HOE := Lib.hid hoe
          rw [hoe] at HVD0 e0 e1 e2 e4 e5 hoo
          have HOO := Lib.hid hoo
          clear hoe hat hoo
          have kc : ∀ (p : Nat) (u : Value), w.cell? ⟨g1, p, none⟩ = some u → wr.cell? ⟨g1, p, none⟩ = some u := fun p u hu => (hP.out.below.cell (p := ⟨g1, p, none⟩) hSg).trans hu
          have d0 := kc _ _ e0
          have d1 := kc _ _ e1
          have d2 := kc _ _ e2
          have d3 := kc _ _ e3
          have d4 := kc _ _ e4
          have d5 := kc _ _ e5
          have HVD := Lib.hid HVD0
          clear kc e0 e1 e2 e3 e4 e5 HVD0 hSg
          obtain ⟨F, af, an, az, aa, cf, cn, cs, ca, gF, hKF, hFb, hXb, hRb⟩ := hP.out.shape
          have HKF := Lib.hid hKF
          have HFB := Lib.hid hFb
          have HRB := Lib.hid hRb
          have hb1 := (Below.refl wr.heap.size wr).alloc (Nat.le_refl _) (.cells #[.int .i64 oo.kind, .string ⟨oo.name.toArray⟩, .string ⟨oo.dest.toArray⟩, .slice va vn vc, .int .i64 oo.n, .int .i64 oo.m] 37)
          have GA := Lib.hid (gF.beside hb1)
          have KA := Lib.hid (fun (q : Nat) (hq : F q) => hb1.block q (gF.lt hq))
          have XA := Lib.hid (hXb.kept (hb1.block _ (gF.lt hFb)))
          have SZ := Lib.hid (gF.lt hFb)
          have GF := Lib.hid gF
          have BXA := Lib.hid hb1
          have NEW := Lib.hid (new_five wr #[.int .i64 oo.kind, .string ⟨oo.name.toArray⟩, .string ⟨oo.dest.toArray⟩, .slice va vn vc, .int .i64 oo.n, .int .i64 oo.m] 37)
          clear hKF hFb hXb hRb hb1 gF
          go_upto_region 22 with fail
          obtain ⟨wA, hwA⟩ : ∃ x, wr.alloc (.cells #[.int .i64 oo.kind, .string ⟨oo.name.toArray⟩, .string ⟨oo.dest.toArray⟩, .slice va vn vc, .int .i64 oo.n, .int .i64 oo.m] 37) = x := ⟨_, rfl⟩
          rw [hwA] at GA KA XA NEW BXA ⊢
          have hzA : wA.heap.size = wr.heap.size + 1 := by rw [← hwA]; simp
          have HZA := Lib.hid hzA
          clear hwA d0 d1 d2 d3 d4 d5 hzA
          obtain ⟨q0, q1, q2, q3, q4, q5, q6⟩ := XA.out.cells
          have p0 : wA.cell? ⟨wr.heap.size, 0, none⟩ = some (.int .i64 oo.kind) := (cell_of_row _ _ _ _ _ _ NEW.out).trans rfl
          have p1 : wA.cell? ⟨wr.heap.size, 1, none⟩ = some (.string ⟨oo.name.toArray⟩) := (cell_of_row _ _ _ _ _ _ NEW.out).trans rfl
          have p2 : wA.cell? ⟨wr.heap.size, 2, none⟩ = some (.string ⟨oo.dest.toArray⟩) := (cell_of_row _ _ _ _ _ _ NEW.out).trans rfl
          have p3 : wA.cell? ⟨wr.heap.size, 3, none⟩ = some (.slice va vn vc) := (cell_of_row _ _ _ _ _ _ NEW.out).trans rfl
          have p4 : wA.cell? ⟨wr.heap.size, 4, none⟩ = some (.int .i64 oo.n) := (cell_of_row _ _ _ _ _ _ NEW.out).trans rfl
          have p5 : wA.cell? ⟨wr.heap.size, 5, none⟩ = some (.int .i64 oo.m) := (cell_of_row _ _ _ _ _ _ NEW.out).trans rfl
          have HST := Lib.hid (step_any GA.out HBD.out HE.out (fun q => F q ∧ q ≠ bx) (fun q hq => hq.1) (.agg (fsV (.slice af t.files.length cf) (.slice an t.now.length cn) (.slice az t.sure.length cs) (.slice aa t.acts.length ca) (t.room : Int) (t.steps : Int) (lim t))) ⟨_, _, _, _, rfl, HRB.out.kept (fun q hq => ⟨hq, KA.out q hq.1⟩)⟩ oo (.slice va vn vc) (HVD.out.kept (fun q hq => ⟨HKF.out q (HLOW2.out q hq), (hP.out.below.trans (BXA.out.mono hP.out.below.size)).block q hq⟩)) HOO.out)
          unfold opRow fsV at HST
          go_wp2_with fail
          refine HST.out.mono ?_
          rintro e w5 ⟨v5, F5, rfl, inc5, g5, hv5, hz5, far5⟩
          obtain ⟨s5, hs5⟩ : ∃ q, (opS t oo).1 = q := ⟨_, rfl⟩
          rw [hs5] at g5 hv5
          have HS5 := Lib.hid hs5
          obtain ⟨af5, an5, az5, aa5, cf5, cn5, cs5, ca5, rfl, hR5⟩ := hv5.shape
          have INC5 := Lib.hid inc5
          have G5 := Lib.hid g5
          have HR5 := Lib.hid hR5
          have FAR5 := Lib.hid far5
          have X5 := Lib.hid (XA.out.kept (far5 _ HFB.out))
          have Z5 := Lib.hid hz5
          clear inc5 g5 hR5 far5 hz5 hs5 HST hv5 q0 q1 q2 q3 q4 q5 q6 p0 p1 p2 p3 p4 p5
          unfold fsV
          obtain ⟨q0, q1, q2, q3, q4, q5, q6⟩ := X5.out.cells
          have fq := X5.out.free
          go_upto_region 23 with fail
          obtain ⟨w6, hW⟩ : ∃ x, ((((((w5.setCell ⟨bx, 0, none⟩ (.slice af5 s5.files.length cf5)).setCell ⟨bx, 1, none⟩ (.slice an5 s5.now.length cn5)).setCell ⟨bx, 2, none⟩ (.slice az5 s5.sure.length cs5)).setCell ⟨bx, 3, none⟩ (.slice aa5 s5.acts.length ca5)).setCell ⟨bx, 4, none⟩ (.int .i64 (s5.room : Int))).setCell ⟨bx, 5, none⟩ (.int .i64 (s5.steps : Int))).setCell ⟨bx, 6, none⟩ (.int .i64 (lim s5)) = x := ⟨_, rfl⟩
          rw [hW]
          have hX5 := X5.out.blk
          unfold fsV at hX5
          have HP6 := Lib.hid (Pl.after hP.out HKF.out HFB.out GA.out KA.out INC5.out G5.out HR5.out FAR5.out hX5 hW)
          clear hW hX5 q0 q1 q2 q3 q4 q5 q6 fq
          go_wp2_with fail
          have hct := opS_count hC.out.2 oo
          rw [HS5.out] at hct
          exact ⟨⟨k + 1, by omega, by go_num, s5, HP6, Lib.hid ⟨by have := hC.out.1; omega, hct.2⟩⟩, by simp [intOf]; omega⟩
        · obtain ⟨wF, hwF⟩ : ∃ x, x = wr := ⟨_, rfl⟩
          subst hwF
          have FKF : Hid (FkS wE.heap.size wF bg p) := Lib.hid (FK8.out.kept (fun q h1 h2 => by
            have hq : q < bx := by rw [← HBX.out]; exact h2
            exact (hP.out.keep q (Or.inr ⟨h1, hq⟩)).trans (N9.out q hq)) (by
            have h1 := hP.out.ex
            obtain ⟨F9, _, _, _, _, g9, _, h9, _⟩ := h1
            have := g9.lt h9
            have := HBX.out
            omega))
          have hkE : ∀ q, F q → wF.heap[q]? = wE.heap[q]? := fun q hq => by
            have h1 := HGF.out.lt hq
            have h2 := C8.out.size
            have h3 := HBX.out
            exact (hP.out.keep q (Or.inl hq)).trans ((N9.out q (by omega)).trans (C8.out.block q h1))
          have hXF := HXB.out.kept (hkE bw HFB.out)
          have hRF := HRB.out.kept (S' := fun q => F q ∧ q ≠ bw) (w' := wF) (fun q hq => ⟨hq, hkE q hq.1⟩)
          have hbl : bx < wF.heap.size := by
            obtain ⟨F9, _, _, _, _, g9, _, h9, _⟩ := hP.out.ex
            exact g9.lt h9
          have HSF := Lib.hid (same_two FKF.out.g HPA.out HPL.out HBDS.out (fun q => F q ∧ q ≠ bw) _ ⟨_, _, _, _, rfl, hRF⟩ (fun q hq => by
            have h1 := HGF.out.lt hq.1
            have h2 := C8.out.size
            have h3 := HBX.out
            omega))
          unfold fsV at HSF
          obtain ⟨q0, q1, q2, q3, q4, q5, q6⟩ := hXF.cells
          clear hXF hRF hkE
          go_wp2_with fail
          refine HSF.out.mono ?_
          rintro e wG ⟨rfl, bG⟩
          have HPG := Lib.hid (hP.out.beside bG)
          have HBG : Hid (Bd t) := Lib.hid ⟨HPG.out.ok, by have := hC.out.1; omega, hC.out.2⟩
          clear bG HSF q0 q1 q2 q3 q4 q5 q6
          obtain ⟨F9, af9, an9, az9, aa9, cf9, cn9, cs9, ca9, g9, _, hFb9, hXb9, hRb9⟩ := HPG.out.shape
          have HSX := Lib.hid (same_any g9 HBG.out (fun q => F9 q ∧ q ≠ bx) _ ⟨_, _, _, _, rfl, hRb9⟩ (fun q hq => g9.lt hq.1))
          unfold fsV at HSX
          have BG := Lib.hid HPG.out.below
          obtain ⟨q0, q1, q2, q3, q4, q5, q6⟩ := hXb9.cells
          clear hFb9 hXb9 hRb9 g9
          go_wp2_with fail
          refine HSX.out.mono ?_
          rintro e wH ⟨rfl, bH⟩
          have BH := Lib.hid (BG.out.trans (bH.mono BG.out.size))
          clear bH HSX q0 q1 q2 q3 q4 q5 q6
          go_wp2_with fail
          go_ret
          exact ⟨rfl, BH.out⟩
end Go.Proofs.YtjefcalndfcmdaaGreatDoor
