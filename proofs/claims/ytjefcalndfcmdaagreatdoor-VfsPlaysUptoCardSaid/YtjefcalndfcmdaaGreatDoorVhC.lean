/- The law: a file system on which a script is played has just the reference's files (VfsPlays). -/
import Derived.Test.YtjefcalndfcmdaaGreatDoorVhA
namespace Go.Proofs.YtjefcalndfcmdaaGreatDoor
open Go.RowKit Go.Maps
attribute [local go_sem ↓] Go.wp_at_zero Go.wp_at_succ
set_option maxRecDepth 100000 in
set_option maxHeartbeats 16000000 in
theorem plays_law (room : Int) (v : Value) (l : List OpL) (w : World) (hv : OpsC (fun k => k < w.heap.size) w v l) (hl : l.length ≤ 1048576) (hok : ∀ e ∈ l, OpOk e) (hE : PEnv w) :
    Calls Tryz.prog 3 #[.int .i64 room, v] w (TrueV w) := by
  obtain ⟨sa, sc, rfl⟩ := RowsC.shape hv
  have HV := Lib.hid hv
  have HOK := Lib.hid hok
  have HE := Lib.hid hE
  clear hv hok hE
  go_enter Tryz.func3, Tryz.ntmps3
  go_wp2_with fail
  refine (awake_any w HE.out).mono ?_
  rintro e w1 ⟨rfl, b1⟩
  have B1 := Lib.hid b1
  clear b1
  by_cases hbad : room < 0 ∨ 4194304 < room
  · have HNB := Lib.hid (new_bad room w1 hbad)
    have HWR := Lib.hid (rwrong_any room w1)
    rw [if_pos hbad] at HWR
    clear hbad
    go_wp2_with fail
    refine HNB.out.mono ?_
    rintro e w2 ⟨rfl, rfl⟩
    clear HNB
    go_wp2_with fail
    refine HWR.out.mono ?_
    rintro e w3 ⟨rfl, rfl⟩
    go_wp2_with fail
    go_ret
    exact ⟨rfl, B1.out⟩
  have HWR := Lib.hid (fun (W : World) => rwrong_any room W)
  rw [if_neg hbad] at HWR
  obtain ⟨ro, rfl⟩ : ∃ n : Nat, room = (n : Int) := ⟨room.toNat, by omega⟩
  have hro4 : ro ≤ 4194304 := by omega
  have HN := Lib.hid (g_new B1.out ro hro4)
  clear hbad
  go_wp2_with fail
  refine HN.out.mono ?_
  rintro e w2 ⟨bf, rfl, g2, b2⟩
  have G2 := Lib.hid g2
  have B2 := Lib.hid b2
  have HW1 := Lib.hid (HWR.out w2)
  clear g2 b2 HN HWR
  go_wp2_with fail
  refine HW1.out.mono ?_
  rintro e w0 ⟨rfl, rfl⟩
  clear HW1
  have HNR := Lib.hid (rnew_any (ro : Int) w0)
  unfold fsV at HNR
  go_wp2_with fail
  refine HNR.out.mono ?_
  rintro e w3 ⟨rfl, b3⟩
  have HP0 := Lib.hid (Pl.begin G2.out b3 B2.out.size)
  have HZB := Lib.hid B2.out.size
  have HZ1 := Lib.hid B1.out.size
  clear HNR G2 B2 b3
  unfold fsV at HP0
  go_upto_region 9 with fail
  obtain ⟨w4, hw4⟩ : ∃ x, (w3.alloc (.cells #[.slice none 0 0, .slice none 0 0, .slice none 0 0, .slice none 0 0, .int .i64 (ro : Int), .int .i64 0, .int .i64 (-1)] 33)) = x := ⟨_, rfl⟩
  have HP0' : Hid (Pl w w4 w4 (fun q => q < w1.heap.size) bf w3.heap.size (newS ro)) := Lib.hid (by rw [← hw4]; exact HP0.out)
  rw [hw4]
  clear hw4 HP0
  obtain ⟨bw, hbw⟩ : ∃ x, w3.heap.size = x := ⟨_, rfl⟩
  rw [hbw] at HP0' ⊢
  clear hbw
  have HLOW : Hid (∀ q, q < w.heap.size → q < w1.heap.size) := Lib.hid (fun q hq => by have := HZ1.out; omega)
  go_wp2_with fail
  go_loopw [9, 42] (fun ok i wr => ok = .bool true ∧ ∃ k : Nat, k ≤ l.length ∧ i = .int .i64 (k : Int) ∧ ∃ s, Hid (Pl w w4 wr (fun q => q < w1.heap.size) bf bw s) ∧ Hid (s.steps ≤ k ∧ s.files.length ≤ s.steps)) (fun _ i _ => l.length - (intOf i).toNat)
  case atStart => exact ⟨rfl, 0, Nat.zero_le _, rfl, newS ro, HP0', Lib.hid ⟨Nat.le_refl _, Nat.le_refl _⟩⟩
  case round =>
    obtain ⟨rfl, k, hk, rfl, s, hP, hC⟩ := hrel
    have HBD : Hid (Bd s) := Lib.hid ⟨hP.out.ok, by have := hC.out.1; omega, hC.out.2⟩
    by_cases hlt : k < l.length
    · obtain ⟨g1, o1, haddr, hSg, hat⟩ := OpsC.at HV.out (by omega)
      subst haddr
      obtain ⟨vd, HVD0, e0, e1, e2, e3, e4, e5⟩ := hat k _ (List.getElem?_eq_getElem (show k < l.length by omega))
      obtain ⟨va, vn, vc, rfl⟩ := bytes_slice HVD0
      have hoo : OpOk l[k] := HOK.out _ (List.getElem_mem _)
      obtain ⟨oo, hoe⟩ : ∃ q, l[k] = q := ⟨_, rfl⟩
      have HOE := Lib.hid hoe
      rw [hoe] at HVD0 e0 e1 e2 e4 e5 hoo
      have HOO := Lib.hid hoo
      clear hoe hat hoo
      have kc : ∀ (p : Nat) (u : Value), w.cell? ⟨g1, p, none⟩ = some u → wr.cell? ⟨g1, p, none⟩ = some u := fun p u hu => (hP.out.below.cell (p := ⟨g1, p, none⟩) hSg).trans hu
      have d0 := kc _ _ e0
      have d1 := kc _ _ e1
      have d2 := kc _ _ e2
      have d3 := kc _ _ e3
      have d4 := kc _ _ e4
      have d5 := kc _ _ e5
      have HVD := Lib.hid HVD0
      clear kc e0 e1 e2 e3 e4 e5 HVD0 hSg
      obtain ⟨F, af, an, az, aa, cf, cn, cs, ca, gF, hKF, hFb, hXb, hRb⟩ := hP.out.shape
      have HKF := Lib.hid hKF
      have HFB := Lib.hid hFb
      have HRB := Lib.hid hRb
      have hb1 := (Below.refl wr.heap.size wr).alloc (Nat.le_refl _) (.cells #[.int .i64 oo.kind, .string ⟨oo.name.toArray⟩, .string ⟨oo.dest.toArray⟩, .slice va vn vc, .int .i64 oo.n, .int .i64 oo.m] 37)
      have GA := Lib.hid (gF.beside hb1)
      have KA := Lib.hid (fun (q : Nat) (hq : F q) => hb1.block q (gF.lt hq))
      have XA := Lib.hid (hXb.kept (hb1.block _ (gF.lt hFb)))
      have SZ := Lib.hid (gF.lt hFb)
      have GF := Lib.hid gF
      have BXA := Lib.hid hb1
      have NEW := Lib.hid (new_five wr #[.int .i64 oo.kind, .string ⟨oo.name.toArray⟩, .string ⟨oo.dest.toArray⟩, .slice va vn vc, .int .i64 oo.n, .int .i64 oo.m] 37)
      clear hKF hFb hXb hRb hb1 gF
      go_upto_region 12 with fail
      obtain ⟨wA, hwA⟩ : ∃ x, wr.alloc (.cells #[.int .i64 oo.kind, .string ⟨oo.name.toArray⟩, .string ⟨oo.dest.toArray⟩, .slice va vn vc, .int .i64 oo.n, .int .i64 oo.m] 37) = x := ⟨_, rfl⟩
      rw [hwA] at GA KA XA NEW BXA ⊢
      have hzA : wA.heap.size = wr.heap.size + 1 := by rw [← hwA]; simp
      have HZA := Lib.hid hzA
      clear hwA d0 d1 d2 d3 d4 d5 hzA
      obtain ⟨q0, q1, q2, q3, q4, q5, q6⟩ := XA.out.cells
      have p0 : wA.cell? ⟨wr.heap.size, 0, none⟩ = some (.int .i64 oo.kind) := (cell_of_row _ _ _ _ _ _ NEW.out).trans rfl
      have p1 : wA.cell? ⟨wr.heap.size, 1, none⟩ = some (.string ⟨oo.name.toArray⟩) := (cell_of_row _ _ _ _ _ _ NEW.out).trans rfl
      have p2 : wA.cell? ⟨wr.heap.size, 2, none⟩ = some (.string ⟨oo.dest.toArray⟩) := (cell_of_row _ _ _ _ _ _ NEW.out).trans rfl
      have p3 : wA.cell? ⟨wr.heap.size, 3, none⟩ = some (.slice va vn vc) := (cell_of_row _ _ _ _ _ _ NEW.out).trans rfl
      have p4 : wA.cell? ⟨wr.heap.size, 4, none⟩ = some (.int .i64 oo.n) := (cell_of_row _ _ _ _ _ _ NEW.out).trans rfl
      have p5 : wA.cell? ⟨wr.heap.size, 5, none⟩ = some (.int .i64 oo.m) := (cell_of_row _ _ _ _ _ _ NEW.out).trans rfl
      have HST := Lib.hid (step_any GA.out HBD.out HE.out (fun q => F q ∧ q ≠ bw) (fun q hq => hq.1) (.agg (fsV (.slice af s.files.length cf) (.slice an s.now.length cn) (.slice az s.sure.length cs) (.slice aa s.acts.length ca) (s.room : Int) (s.steps : Int) (lim s))) ⟨_, _, _, _, rfl, HRB.out.kept (fun q hq => ⟨hq, KA.out q hq.1⟩)⟩ oo (.slice va vn vc) (HVD.out.kept (fun q hq => ⟨HKF.out q (HLOW.out q hq), (hP.out.below.trans (BXA.out.mono hP.out.below.size)).block q hq⟩)) HOO.out)
      unfold opRow fsV at HST
      go_wp2_with fail
      refine HST.out.mono ?_
      rintro e w5 ⟨v5, F5, rfl, inc5, g5, hv5, hz5, far5⟩
      obtain ⟨s5, hs5⟩ : ∃ q, (opS s oo).1 = q := ⟨_, rfl⟩
      rw [hs5] at g5 hv5
      have HS5 := Lib.hid hs5
      obtain ⟨af5, an5, az5, aa5, cf5, cn5, cs5, ca5, rfl, hR5⟩ := hv5.shape
      have INC5 := Lib.hid inc5
      have G5 := Lib.hid g5
      have HR5 := Lib.hid hR5
      have FAR5 := Lib.hid far5
      have X5 := Lib.hid (XA.out.kept (far5 _ HFB.out))
      have Z5 := Lib.hid hz5
      clear inc5 g5 hR5 far5 hz5 hs5 HST hv5 q0 q1 q2 q3 q4 q5 q6 p0 p1 p2 p3 p4 p5
      unfold fsV
      obtain ⟨q0, q1, q2, q3, q4, q5, q6⟩ := X5.out.cells
      have fq := X5.out.free
      go_upto_region 13 with fail
      obtain ⟨w6, hW⟩ : ∃ x, ((((((w5.setCell ⟨bw, 0, none⟩ (.slice af5 s5.files.length cf5)).setCell ⟨bw, 1, none⟩ (.slice an5 s5.now.length cn5)).setCell ⟨bw, 2, none⟩ (.slice az5 s5.sure.length cs5)).setCell ⟨bw, 3, none⟩ (.slice aa5 s5.acts.length ca5)).setCell ⟨bw, 4, none⟩ (.int .i64 (s5.room : Int))).setCell ⟨bw, 5, none⟩ (.int .i64 (s5.steps : Int))).setCell ⟨bw, 6, none⟩ (.int .i64 (lim s5)) = x := ⟨_, rfl⟩
      rw [hW]
      have hX5 := X5.out.blk
      unfold fsV at hX5
      have HP6 := Lib.hid (Pl.after hP.out HKF.out HFB.out GA.out KA.out INC5.out G5.out HR5.out FAR5.out hX5 hW)
      clear hW hX5 q0 q1 q2 q3 q4 q5 q6 fq
      have hct := opS_count hC.out.2 oo
      rw [HS5.out] at hct
      have HCT : Hid (s5.steps ≤ k + 1 ∧ s5.files.length ≤ s5.steps) := Lib.hid ⟨by have := hC.out.1; omega, hct.2⟩
      have HBD5 : Hid (Bd s5) := Lib.hid ⟨HP6.out.ok, by have := HCT.out.1; omega, HCT.out.2⟩
      have HP7 := Lib.hid (HP6.out.beside (drewn _ w6 1))
      have hwd : w6.drewN 1 = w6.drew := rfl
      rw [hwd] at HP7
      clear hct hwd HP6 hC HBD
      obtain ⟨F7, af, an, az, aa, cf, cn, cs, ca, gF, hKF, hFb, hXb, hRb⟩ := HP7.out.shape
      have HSM := Lib.hid (fun (W : World) (hb : Below w6.drew.heap.size w6.drew W) => same_any (gF.beside hb) HBD5.out (fun q => F7 q ∧ q ≠ bw) _ ⟨_, _, _, _, rfl, hRb.kept (S' := fun q => F7 q ∧ q ≠ bw) (fun q hq => ⟨hq, hb.block q (gF.lt hq.1)⟩)⟩ (fun q hq => Nat.lt_of_lt_of_le (gF.lt hq.1) hb.size))
      have HGS := Lib.hid (fun (W : World) (hb : Below w6.drew.heap.size w6.drew W) => g_steps (gF.beside hb))
      have HXX := Lib.hid (fun (W : World) (hb : Below w6.drew.heap.size w6.drew W) => hXb.kept (hb.block _ (gF.lt hFb)))
      have C0 := Lib.hid (Below.refl w6.drew.heap.size w6.drew)
      unfold fsV at HSM
      clear hKF hFb hXb hRb gF
      refine wp_region_D 14 (fun W => W.cell? ⟨bw, 0, none⟩ = some (.slice af s5.files.length cf) ∧ W.cell? ⟨bw, 1, none⟩ = some (.slice an s5.now.length cn) ∧ W.cell? ⟨bw, 2, none⟩ = some (.slice az s5.sure.length cs) ∧ W.cell? ⟨bw, 3, none⟩ = some (.slice aa s5.acts.length ca) ∧ W.cell? ⟨bw, 4, none⟩ = some (.int .i64 (s5.room : Int)) ∧ W.cell? ⟨bw, 5, none⟩ = some (.int .i64 (s5.steps : Int)) ∧ W.cell? ⟨bw, 6, none⟩ = some (.int .i64 (lim s5))) (by kernel_rfl) (by kernel_rfl) (by kernel_rfl) ?_
      have hSd := (HXX.out _ C0.out).cells
      refine wpAnyD_take (i := 0) (oi := ⟨_, _, _, _, _, _⟩) (v := ?_) rfl (by kernel_rfl) (by kernel_rfl) (by kernel_rfl) (by kernel_rfl) (fun _ _ _ h => h) (fun _ _ h => h) (Or.inl (Or.inl ⟨by rfl, ?_⟩)) hSd ?_
      rotate_left
      · intro W hSw; (try dsimp only at hSw); first | (go_simp; done) | (go_simp; with_reducible rfl)
      try simp only [Act.put, List.setIfInBounds_toArray, List.set_cons_zero, List.set_cons_succ]
      refine wpAnyD_take (i := 1) (oi := ⟨_, _, _, _, _, _⟩) (v := ?_) rfl (by kernel_rfl) (by kernel_rfl) (by kernel_rfl) (by kernel_rfl) (fun _ _ _ h => h) (fun _ _ h => h) (Or.inl (Or.inl ⟨by rfl, ?_⟩)) hSd ?_
      rotate_left
      · intro W hSw; (try dsimp only at hSw); first | (go_simp; done) | (go_simp; with_reducible rfl)
      try simp only [Act.put, List.setIfInBounds_toArray, List.set_cons_zero, List.set_cons_succ]
      refine wpAnyD_take (i := 2) (oi := ⟨_, _, _, _, _, _⟩) (v := ?_) rfl (by kernel_rfl) (by kernel_rfl) (by kernel_rfl) (by kernel_rfl) (fun _ _ _ h => h) (fun _ _ h => h) (Or.inl (Or.inl ⟨by rfl, ?_⟩)) hSd ?_
      rotate_left
      · intro W hSw; (try dsimp only at hSw); first | (go_simp; done) | (go_simp; with_reducible rfl)
      try simp only [Act.put, List.setIfInBounds_toArray, List.set_cons_zero, List.set_cons_succ]
      refine wpAnyD_take (i := 3) (oi := ⟨_, _, _, _, _, _⟩) (v := ?_) rfl (by kernel_rfl) (by kernel_rfl) (by kernel_rfl) (by kernel_rfl) (fun _ _ _ h => h) (fun _ _ h => h) (Or.inl (Or.inl ⟨by rfl, ?_⟩)) hSd ?_
      rotate_left
      · intro W hSw; (try dsimp only at hSw); first | (go_simp; done) | (go_simp; with_reducible rfl)
      try simp only [Act.put, List.setIfInBounds_toArray, List.set_cons_zero, List.set_cons_succ]
      refine wpAnyD_take (i := 4) (oi := ⟨_, _, _, _, _, _⟩) (v := ?_) rfl (by kernel_rfl) (by kernel_rfl) (by kernel_rfl) (by kernel_rfl) (fun _ _ _ h => h) (fun _ _ h => h) (Or.inl (Or.inl ⟨by rfl, ?_⟩)) hSd ?_
      rotate_left
      · intro W hSw; (try dsimp only at hSw); first | (go_simp; done) | (go_simp; with_reducible rfl)
      try simp only [Act.put, List.setIfInBounds_toArray, List.set_cons_zero, List.set_cons_succ]
      clear hSd
      refine wpAnyD_one (i := 5) (o := ⟨_, _, _, _, _, _⟩) (by kernel_rfl) (by decide) rfl (fun nD K hK0 => ?_)
      have hK := Lib.hid hK0
      clear hK0
      have C1 := Lib.hid (C0.out.trans (drewn _ w6.drew nD))
      obtain ⟨w7, hw7⟩ : ∃ x, w6.drew.drewN nD = x := ⟨_, rfl⟩
      rw [hw7] at C1 ⊢
      clear hw7
      have HC := Lib.hid (HSM.out w7 C1.out)
      go_simp
      refine HC.out.mono ?_
      rintro e w8 ⟨rfl, b8⟩
      have C2 := Lib.hid (C1.out.trans (b8.mono C1.out.size))
      clear HC HSM b8
      refine hK.out _ _ (HXX.out _ C2.out).cells ?_
      clear hK K
      try simp only [Act.put, List.setIfInBounds_toArray, List.set_cons_zero, List.set_cons_succ]
      have hSd := (HXX.out _ C2.out).cells
      refine wpAnyD_take (i := 6) (oi := ⟨_, _, _, _, _, _⟩) (v := ?_) rfl (by kernel_rfl) (by kernel_rfl) (by kernel_rfl) (by kernel_rfl) (fun _ _ _ h => h) (fun _ _ h => h) (Or.inl (Or.inl ⟨by rfl, ?_⟩)) hSd ?_
      rotate_left
      · intro W hSw; (try dsimp only at hSw); first | (go_simp; done) | (go_simp; with_reducible rfl)
      try simp only [Act.put, List.setIfInBounds_toArray, List.set_cons_zero, List.set_cons_succ]
      refine wpAnyD_take (i := 7) (oi := ⟨_, _, _, _, _, _⟩) (v := ?_) rfl (by kernel_rfl) (by kernel_rfl) (by kernel_rfl) (by kernel_rfl) (fun _ _ _ h => h) (fun _ _ h => h) (Or.inl (Or.inl ⟨by rfl, ?_⟩)) hSd ?_
      rotate_left
      · intro W hSw; (try dsimp only at hSw); first | (go_simp; done) | (go_simp; with_reducible rfl)
      try simp only [Act.put, List.setIfInBounds_toArray, List.set_cons_zero, List.set_cons_succ]
      refine wpAnyD_take (i := 8) (oi := ⟨_, _, _, _, _, _⟩) (v := ?_) rfl (by kernel_rfl) (by kernel_rfl) (by kernel_rfl) (by kernel_rfl) (fun _ _ _ h => h) (fun _ _ h => h) (Or.inl (Or.inl ⟨by rfl, ?_⟩)) hSd ?_
      rotate_left
      · intro W hSw; (try dsimp only at hSw); first | (go_simp; done) | (go_simp; with_reducible rfl)
      try simp only [Act.put, List.setIfInBounds_toArray, List.set_cons_zero, List.set_cons_succ]
      refine wpAnyD_take (i := 9) (oi := ⟨_, _, _, _, _, _⟩) (v := ?_) rfl (by kernel_rfl) (by kernel_rfl) (by kernel_rfl) (by kernel_rfl) (fun _ _ _ h => h) (fun _ _ h => h) (Or.inl (Or.inl ⟨by rfl, ?_⟩)) hSd ?_
      rotate_left
      · intro W hSw; (try dsimp only at hSw); first | (go_simp; done) | (go_simp; with_reducible rfl)
      try simp only [Act.put, List.setIfInBounds_toArray, List.set_cons_zero, List.set_cons_succ]
      refine wpAnyD_take (i := 11) (oi := ⟨_, _, _, _, _, _⟩) (v := ?_) rfl (by kernel_rfl) (by kernel_rfl) (by kernel_rfl) (by kernel_rfl) (fun _ _ _ h => h) (fun _ _ h => h) (Or.inl (Or.inl ⟨by rfl, ?_⟩)) hSd ?_
      rotate_left
      · intro W hSw; (try dsimp only at hSw); first | (go_simp; done) | (go_simp; with_reducible rfl)
      try simp only [Act.put, List.setIfInBounds_toArray, List.set_cons_zero, List.set_cons_succ]
      refine wpAnyD_take (i := 12) (oi := ⟨_, _, _, _, _, _⟩) (v := ?_) rfl (by kernel_rfl) (by kernel_rfl) (by kernel_rfl) (by kernel_rfl) (fun _ _ _ h => h) (fun _ _ h => h) (Or.inl (Or.inl ⟨by rfl, ?_⟩)) hSd ?_
      rotate_left
      · intro W hSw; (try dsimp only at hSw); first | (go_simp; done) | (go_simp; with_reducible rfl)
      try simp only [Act.put, List.setIfInBounds_toArray, List.set_cons_zero, List.set_cons_succ]
      clear hSd
      refine wpAnyD_one (i := 10) (o := ⟨_, _, _, _, _, _⟩) (by kernel_rfl) (by decide) rfl (fun nD K hK0 => ?_)
      have hK := Lib.hid hK0
      clear hK0
      have C3 := Lib.hid (C2.out.trans (drewn _ w8 nD))
      obtain ⟨w9, hw9⟩ : ∃ x, w8.drewN nD = x := ⟨_, rfl⟩
      rw [hw9] at C3 ⊢
      clear hw9
      have HC := Lib.hid (HGS.out w9 C3.out)
      go_simp
      refine HC.out.mono ?_
      rintro e w10 ⟨rfl, rfl⟩
      clear HC HGS
      refine hK.out _ _ (HXX.out _ C3.out).cells ?_
      clear hK K
      try simp only [Act.put, List.setIfInBounds_toArray, List.set_cons_zero, List.set_cons_succ]
      have hSd := (HXX.out _ C3.out).cells
      refine wpAnyD_take (i := 13) (oi := ⟨_, _, _, _, _, _⟩) (v := ?_) rfl (by kernel_rfl) (by kernel_rfl) (by kernel_rfl) (by kernel_rfl) (fun _ _ _ h => h) (fun _ _ h => h) (Or.inl (Or.inl ⟨by rfl, ?_⟩)) hSd ?_
      rotate_left
      · intro W hSw; (try dsimp only at hSw); first | (go_simp; done) | (go_simp; with_reducible rfl)
      try simp only [Act.put, List.setIfInBounds_toArray, List.set_cons_zero, List.set_cons_succ]
      refine wpAnyD_last (by kernel_rfl) (fun nD => ?_)
      refine wpOp_one rfl (by rfl) ?_
      clear hSd
      have HP11 := Lib.hid (HP7.out.beside (C3.out.trans (drewn _ w9 nD)))
      obtain ⟨w11, hw11⟩ : ∃ x, w9.drewN nD = x := ⟨_, rfl⟩
      rw [hw11] at HP11 ⊢
      clear hw11 C0 C1 C2 C3 HXX HP7
      go_simp
      go_wp2_with fail
      exact ⟨⟨rfl, k + 1, by omega, by go_num, s5, HP11, HCT⟩, by simp [intOf]; omega⟩
    · have HB := Lib.hid hP.out.below
      go_wp2_with fail
      go_ret
      exact ⟨rfl, HB.out⟩
end Go.Proofs.YtjefcalndfcmdaaGreatDoor
