/- The walks of the reference's Before, rising; the law's blob. -/
import Derived.Test.YtdolonkeanlaoaaObRa
namespace Go.Proofs.Ytdolonkeanlaoaa
open Go.RowKit
attribute [local simp high] id_size id_zero

theorem drop_at {X : List UInt8} {k : Nat} (h : k < X.length) : X.drop k = X.getD k 0 :: X.drop (k + 1) := by
  rw [List.drop_eq_getElem_cons h]
  simp [List.getD, List.getElem?_eq_getElem h]
set_option maxRecDepth 100000 in
set_option maxHeartbeats 1000000 in
theorem dbefore_any (X Y : List UInt8) (w : World) (hX : X.length = 32) (hY : Y.length = 32) : Calls Try.prog 77 #[.agg (bv X).toArray, .agg (bv Y).toArray] w fun e w' => e = .returned (.bool (ltB X Y)) ∧ Below w.heap.size w w' := by
  obtain ⟨w2, hw2⟩ : ∃ w2, w2 = ((w.alloc (.cells (bv X).toArray 27)).alloc (.cells (bv Y).toArray 27)) := ⟨_, rfl⟩
  have I1 : Hid (IDAt w2 w.heap.size X) := Lib.hid ⟨hX, by rw [hw2]; exact (Below.heap_alloc _ _ _ (by simp)).trans (new_five w _ _)⟩
  have I2 : Hid (IDAt w2 (w.heap.size + 1) Y) := Lib.hid ⟨hY, by
    rw [hw2]
    have h := new_five (w.alloc (.cells (bv X).toArray 27)) (bv Y).toArray 27
    rw [World.size_alloc] at h
    exact h⟩
  have I4 : Hid (Below w.heap.size w w2) := Lib.hid (by rw [hw2]; exact ((Below.refl w.heap.size w).alloc (Nat.le_refl _) _).alloc (by simp) _)
  obtain ⟨R, hR⟩ : ∃ R, ltB X Y = R := ⟨_, rfl⟩
  have HR : Hid (ltB (X.drop 0) (Y.drop 0) = R) := Lib.hid hR
  rw [hR]
  have HX := Lib.hid hX
  have HY := Lib.hid hY
  have zx : (bv X).length = n32 := by rw [bv_len, hX]; rfl
  have zy : (bv Y).length = n32 := by rw [bv_len, hY]; rfl
  clear hX hY hR
  go_enter Try.func77, Try.ntmps77
  go_wp2_with fail
  rw [← hw2]
  clear hw2 zx zy
  go_loopw [5] (fun i wr => ∃ k : Nat, k ≤ 32 ∧ i = .int .i64 (k : Int) ∧ Hid (ltB (X.drop k) (Y.drop k) = R) ∧ Hid (∃ n, wr = w2.drewN n)) (fun i _ => 32 - (intOf i).toNat)
  case atStart => exact ⟨0, Nat.zero_le _, rfl, HR, Lib.hid ⟨0, rfl⟩⟩
  case round =>
    obtain ⟨k, hk, rfl, hE, hW⟩ := hrel
    have HBW : Hid (∀ n, Below w.heap.size w (wr.drewN n)) := Lib.hid (fun n => by obtain ⟨nw, hnw⟩ := hW.out; rw [hnw]; exact (I4.out.trans (below_drewN _ _ _)).trans (below_drewN _ _ _))
    by_cases hlt : k < 32
    · obtain ⟨nw, hnw⟩ := hW.out
      have i1 : IDAt wr w.heap.size X := I1.out.kept (by rw [hnw]; rfl)
      have i2 : IDAt wr (w.heap.size + 1) Y := I2.out.kept (by rw [hnw]; rfl)
      have hc1 := i1.cell k (by rw [HX.out]; exact hlt)
      have hc2 := i2.cell k (by rw [HY.out]; exact hlt)
      have hx : X[k]'(by rw [HX.out]; exact hlt) = X.getD k 0 := by simp [List.getD, List.getElem?_eq_getElem (show k < X.length by rw [HX.out]; exact hlt)]
      have hy : Y[k]'(by rw [HY.out]; exact hlt) = Y.getD k 0 := by simp [List.getD, List.getElem?_eq_getElem (show k < Y.length by rw [HY.out]; exact hlt)]
      rw [hx] at hc1
      rw [hy] at hc2
      have HE : Hid (ltB (X.getD k 0 :: X.drop (k + 1)) (Y.getD k 0 :: Y.drop (k + 1)) = R) := Lib.hid (by rw [← drop_at (by rw [HX.out]; exact hlt), ← drop_at (by rw [HY.out]; exact hlt)]; exact hE.out)
      generalize X.getD k 0 = x at *
      generalize Y.getD k 0 = y at *
      clear hx hy i1 i2 hnw
      by_cases hxy : x = y
      · have HE2 : Hid (ltB (X.drop (k + 1)) (Y.drop (k + 1)) = R) := Lib.hid (by
          have h := HE.out
          rw [hxy] at h
          unfold ltB at h ⊢
          rw [less_cons_same] at h
          exact h)
        have hne : ((x.toNat : Int) != (y.toNat : Int)) = false := by rw [hxy]; simp
        clear HE hE hxy
        go_upto_region 4 with fail
        go_quiet (fail)
        go_wp2_with fail
        go_roundw
        case rel => exact ⟨k + 1, by omega, by go_num, HE2, Lib.hid (by obtain ⟨nw, hnw⟩ := hW.out; rw [hnw]; exact ⟨_, World.drewN_drewN _ _ _⟩)⟩
        case measure => simp [intOf]; omega
      · have HE2 : Hid (decide ((x.toNat : Int) < (y.toNat : Int)) = R) := Lib.hid (by
          have h := HE.out
          unfold ltB at h
          rw [less_cons_ne hxy] at h
          rw [← h]
          exact decide_eq_decide.2 (by rw [UInt8.lt_iff_toNat_lt]; omega))
        have hne : ((x.toNat : Int) != (y.toNat : Int)) = true := by
          have : x.toNat ≠ y.toNat := fun c => hxy (UInt8.toNat_inj.1 c)
          rw [bne_iff_ne]; omega
        clear HE hE hxy
        generalize hdd : decide ((x.toNat : Int) < (y.toNat : Int)) = dd at *
        have hdd2 : decide (x.toNat < y.toNat) = dd := by rw [← hdd]; exact decide_eq_decide.2 (by omega)
        go_upto_region 4 with fail
        go_quiet (fail)
        go_wp2_with fail
        go_quiet (fail)
        go_wp2_with fail
        go_ret
        exact ⟨by rw [← HE2.out]; rfl, by first | exact HBW.out _ | (rw [World.drewN_drewN]; exact HBW.out _)⟩
    · have hk32 : k = 32 := by omega
      have HRF : Hid (R = false) := Lib.hid (by rw [← hE.out, hk32, List.drop_of_length_le (by rw [HX.out]; omega), List.drop_of_length_le (by rw [HY.out]; omega)]; rfl)
      clear hk32 hE
      go_wp2_with fail
      go_ret
      exact ⟨by rw [HRF.out]; rfl, HBW.out 0⟩
set_option maxRecDepth 100000 in
set_option maxHeartbeats 4000000 in
theorem drising_any (S : Nat → Prop) (v : Value) (I : List (List UInt8)) (w : World) (hS : ∀ k, S k → k < w.heap.size) (hv : IDsC S w v I) (hl : I.length ≤ 1048576) :
    Calls Try.prog 49 #[v] w fun e w' => e = .returned (.bool (riseB I)) ∧ Below w.heap.size w w' := by
  obtain ⟨a, c, rfl⟩ := hv.shape
  have HV : Hid (∀ W, Below w.heap.size w W → IDsC S W (.slice a I.length c) I) := Lib.hid (fun W hW => hv.kept (fun k hk => ⟨hk, hW.block k (hS k hk)⟩))
  have HSS := Lib.hid hS
  obtain ⟨R, hR⟩ : ∃ R, riseB I = R := ⟨_, rfl⟩
  rw [hR]
  have HR : Hid (riseFrom I (I.length - 1) 1 = R) := Lib.hid hR
  obtain ⟨m, hm⟩ : ∃ m, I.length = m := ⟨_, rfl⟩
  have HM := Lib.hid hm
  rw [hm] at hl HR HV ⊢
  clear hv hR hm hS
  go_enter Try.func49, Try.ntmps49
  go_wp2_with fail
  go_loopw [3] (fun i wr => ∃ k : Nat, 1 ≤ k ∧ (k ≤ m ∨ k = 1) ∧ i = .int .i64 (k : Int) ∧ Hid (riseFrom I (m - k) k = R) ∧ Hid (Below w.heap.size w wr)) (fun i _ => m - (intOf i).toNat)
  case atStart => exact ⟨1, Nat.le_refl _, Or.inr rfl, rfl, HR, Lib.hid (Below.refl _ _)⟩
  case round =>
    obtain ⟨k, hk1, hk, rfl, hE, hW⟩ := hrel
    by_cases hlt : k < m
    · have hI0 : IDsC S wr (.slice a I.length c) I := by rw [HM.out]; exact HV.out wr hW.out
      obtain ⟨b, rfl, hSb, hc, _⟩ := hI0.at (by rw [HM.out]; omega)
      rw [HM.out] at hc
      obtain ⟨p, hp⟩ : ∃ p, k = p + 1 := ⟨k - 1, by omega⟩
      have hpi : (k : Int) - 1 = (p : Int) := by omega
      have hpw : IntKind.i64.wrap ((k : Int) - 1) = (p : Int) := by rw [hpi]; exact IntWalk.i64_in _ (by omega)
      have hwp : IntKind.i64.wrap (p : Int) = (p : Int) := IntWalk.i64_in _ (by omega)
      have hp0 : (0 : Int) ≤ (p : Int) := by omega
      have hpn : ((p : Nat) : Int).toNat = p := by omega
      have hpm : (p : Int) < (m : Int) := by omega
      have hpm2 : p < m := by omega
      have HPM := Lib.hid hpm2
      have HP := Lib.hid hp
      have HXL : Hid ((I.getD p []).length = 32) := Lib.hid (hI0.len p (by rw [HM.out]; omega))
      have HYL : Hid ((I.getD k []).length = 32) := Lib.hid (hI0.len k (by rw [HM.out]; exact hlt))
      have HSD : Hid (∀ W : World, (∀ q, q < wr.heap.size → W.heap[q]? = wr.heap[q]?) → IDsC S W (.slice (some b) I.length c) I) := Lib.hid (fun W hq => hI0.kept (fun k hk => ⟨hk, hq k (Nat.lt_of_lt_of_le (HSS.out k hk) hW.out.size)⟩))
      clear hI0 hp hpm2
      obtain ⟨X, hX⟩ : ∃ X, I.getD p [] = X := ⟨_, rfl⟩
      obtain ⟨Y, hY⟩ : ∃ Y, I.getD k [] = Y := ⟨_, rfl⟩
      have HXP := Lib.hid hX
      have HXK := Lib.hid hY
      rw [hX] at HXL
      rw [hY] at HYL
      have zx : (bv X).length = n32 := by rw [bv_len, HXL.out]; rfl
      have zy : (bv Y).length = n32 := by rw [bv_len, HYL.out]; rfl
      clear hX hY
      obtain ⟨lt, hlt2⟩ : ∃ q, ltB X Y = q := ⟨_, rfl⟩
      have HLT := Lib.hid hlt2
      clear hlt2
      cases lt with
      | false =>
        have hR : Hid (R = false) := Lib.hid (by
          rw [← hE.out, show m - k = (m - k - 1) + 1 by omega]
          refine riseFrom_stop ?_
          rw [show k - 1 = p by have := HP.out; omega, HXP.out, HXK.out, HLT.out])
        go_upto_region 4 with fail
        refine wp_region_D 10 (fun W => IDsC S W (.slice (some b) I.length c) I) (by kernel_rfl) (by kernel_rfl) (by kernel_rfl) ?_
        have hSd := HSD.out wr.drew (fun q _ => rfl)
        refine wpAnyD_take (i := 0) (oi := ⟨_, _, _, _, _, _⟩) (v := ?_) rfl (by kernel_rfl) (by kernel_rfl) (by kernel_rfl) (by kernel_rfl) (fun _ _ _ h => h) (fun _ _ h => h.kept (fun _ hk => ⟨hk, rfl⟩)) (Or.inl (Or.inl ⟨by rfl, ?_⟩)) hSd ?_
        rotate_left
        · intro W hSw; (try dsimp only at hSw); first | (go_simp; done) | (go_simp; with_reducible rfl)
        try simp only [Act.put, List.setIfInBounds_toArray, List.set_cons_zero, List.set_cons_succ]
        refine wpAnyD_take (i := 1) (oi := ⟨_, _, _, _, _, _⟩) (v := ?_) rfl (by kernel_rfl) (by kernel_rfl) (by kernel_rfl) (by kernel_rfl) (fun _ _ _ h => h) (fun _ _ h => h.kept (fun _ hk => ⟨hk, rfl⟩)) (Or.inl (Or.inl ⟨by rfl, ?_⟩)) hSd ?_
        rotate_left
        · intro W hSw; (try dsimp only at hSw); first | (go_simp; done) | (go_simp; with_reducible rfl)
        try simp only [Act.put, List.setIfInBounds_toArray, List.set_cons_zero, List.set_cons_succ]
        refine wpAnyD_take (i := 2) (oi := ⟨_, _, _, _, _, _⟩) (v := ?_) rfl (by kernel_rfl) (by kernel_rfl) (by kernel_rfl) (by kernel_rfl) (fun _ _ _ h => h) (fun _ _ h => h.kept (fun _ hk => ⟨hk, rfl⟩)) (Or.inl (Or.inl ⟨by rfl, ?_⟩)) hSd ?_
        rotate_left
        · intro W hSw; (try dsimp only at hSw); first | (go_simp; done) | (go_simp; with_reducible rfl)
        try simp only [Act.put, List.setIfInBounds_toArray, List.set_cons_zero, List.set_cons_succ]
        refine wpAnyD_take (i := 3) (oi := ⟨_, _, _, _, _, _⟩) (v := ?_) rfl (by kernel_rfl) (by kernel_rfl) (by kernel_rfl) (by kernel_rfl) (fun _ _ _ h => h) (fun _ _ h => h.kept (fun _ hk => ⟨hk, rfl⟩)) (Or.inl (Or.inl ⟨by rfl, ?_⟩)) hSd ?_
        rotate_left
        · intro W hSw; (try dsimp only at hSw); first | (go_simp; done) | (go_simp; with_reducible rfl)
        try simp only [Act.put, List.setIfInBounds_toArray, List.set_cons_zero, List.set_cons_succ]
        refine wpAnyD_take (i := 4) (oi := ⟨_, _, _, _, _, _⟩) (v := ?_) rfl (by kernel_rfl) (by kernel_rfl) (by kernel_rfl) (by kernel_rfl) (fun _ _ _ h => h) (fun _ _ h => h.kept (fun _ hk => ⟨hk, rfl⟩)) (Or.inl (Or.inl ⟨by rfl, ?_⟩)) hSd ?_
        rotate_left
        · intro W hSw; (try dsimp only at hSw); have hcl := hSw.cells p (by rw [HM.out]; exact HPM.out); rw [HXP.out] at hcl; first | (go_simp; done) | (go_simp; with_reducible rfl)
        try simp only [Act.put, List.setIfInBounds_toArray, List.set_cons_zero, List.set_cons_succ]
        refine wpAnyD_take (i := 5) (oi := ⟨_, _, _, _, _, _⟩) (v := ?_) rfl (by kernel_rfl) (by kernel_rfl) (by kernel_rfl) (by kernel_rfl) (fun _ _ _ h => h) (fun _ _ h => h.kept (fun _ hk => ⟨hk, rfl⟩)) (Or.inl (Or.inl ⟨by rfl, ?_⟩)) hSd ?_
        rotate_left
        · intro W hSw; (try dsimp only at hSw); first | (go_simp; done) | (go_simp; with_reducible rfl)
        try simp only [Act.put, List.setIfInBounds_toArray, List.set_cons_zero, List.set_cons_succ]
        refine wpAnyD_take (i := 6) (oi := ⟨_, _, _, _, _, _⟩) (v := ?_) rfl (by kernel_rfl) (by kernel_rfl) (by kernel_rfl) (by kernel_rfl) (fun _ _ _ h => h) (fun _ _ h => h.kept (fun _ hk => ⟨hk, rfl⟩)) (Or.inl (Or.inl ⟨by rfl, ?_⟩)) hSd ?_
        rotate_left
        · intro W hSw; (try dsimp only at hSw); first | (go_simp; done) | (go_simp; with_reducible rfl)
        try simp only [Act.put, List.setIfInBounds_toArray, List.set_cons_zero, List.set_cons_succ]
        refine wpAnyD_take (i := 7) (oi := ⟨_, _, _, _, _, _⟩) (v := ?_) rfl (by kernel_rfl) (by kernel_rfl) (by kernel_rfl) (by kernel_rfl) (fun _ _ _ h => h) (fun _ _ h => h.kept (fun _ hk => ⟨hk, rfl⟩)) (Or.inl (Or.inl ⟨by rfl, ?_⟩)) hSd ?_
        rotate_left
        · intro W hSw; (try dsimp only at hSw); first | (go_simp; done) | (go_simp; with_reducible rfl)
        try simp only [Act.put, List.setIfInBounds_toArray, List.set_cons_zero, List.set_cons_succ]
        refine wpAnyD_take (i := 8) (oi := ⟨_, _, _, _, _, _⟩) (v := ?_) rfl (by kernel_rfl) (by kernel_rfl) (by kernel_rfl) (by kernel_rfl) (fun _ _ _ h => h) (fun _ _ h => h.kept (fun _ hk => ⟨hk, rfl⟩)) (Or.inl (Or.inl ⟨by rfl, ?_⟩)) hSd ?_
        rotate_left
        · intro W hSw; (try dsimp only at hSw); have hcl := hSw.cells k (by rw [HM.out]; exact hlt); rw [HXK.out] at hcl; first | (go_simp; done) | (go_simp; with_reducible rfl)
        try simp only [Act.put, List.setIfInBounds_toArray, List.set_cons_zero, List.set_cons_succ]
        clear hSd
        refine wpAnyD_one (i := 9) (o := ⟨_, _, _, _, _, _⟩) (by kernel_rfl) (by decide) rfl (fun nq K hK0 => ?_)
        have hK := Lib.hid hK0
        clear hK0
        go_simp
        refine (dbefore_any X Y _ HXL.out HYL.out).mono ?_
        rintro e w6 ⟨rfl, hb6⟩
        have HB6 : Hid (Below wr.heap.size wr w6) := Lib.hid ((below_drewN wr.heap.size wr (1 + nq)).trans hb6)
        clear hb6
        rw [HLT.out]
        try go_wp2_with fail
        refine hK.out _ _ (HSD.out w6 (fun q hq => HB6.out.block q hq)) ?_
        clear hK K
        try simp only [Act.put, List.setIfInBounds_toArray, List.set_cons_zero, List.set_cons_succ]
        refine wpAnyD_last (by kernel_rfl) (fun nd => ?_)
        refine wpOp_one rfl (by rfl) ?_
        have HB7 : Hid (Below w.heap.size w (w6.drewN nd)) := Lib.hid ((hW.out.trans (HB6.out.mono hW.out.size)).trans (below_drewN _ _ _))
        generalize w6.drewN nd = wa at *
        go_simp
        go_wp2_with fail
        go_ret
        exact ⟨by rw [hR.out]; rfl, HB7.out⟩
      | true =>
        have hE1 : Hid (riseFrom I (m - (k + 1)) (k + 1) = R) := Lib.hid (by
          rw [← hE.out, show m - k = (m - (k + 1)) + 1 by omega]
          refine (riseFrom_next ?_).symm
          rw [show k - 1 = p by have := HP.out; omega, HXP.out, HXK.out, HLT.out])
        go_upto_region 4 with fail
        refine wp_region_D 10 (fun W => IDsC S W (.slice (some b) I.length c) I) (by kernel_rfl) (by kernel_rfl) (by kernel_rfl) ?_
        have hSd := HSD.out wr.drew (fun q _ => rfl)
        refine wpAnyD_take (i := 0) (oi := ⟨_, _, _, _, _, _⟩) (v := ?_) rfl (by kernel_rfl) (by kernel_rfl) (by kernel_rfl) (by kernel_rfl) (fun _ _ _ h => h) (fun _ _ h => h.kept (fun _ hk => ⟨hk, rfl⟩)) (Or.inl (Or.inl ⟨by rfl, ?_⟩)) hSd ?_
        rotate_left
        · intro W hSw; (try dsimp only at hSw); first | (go_simp; done) | (go_simp; with_reducible rfl)
        try simp only [Act.put, List.setIfInBounds_toArray, List.set_cons_zero, List.set_cons_succ]
        refine wpAnyD_take (i := 1) (oi := ⟨_, _, _, _, _, _⟩) (v := ?_) rfl (by kernel_rfl) (by kernel_rfl) (by kernel_rfl) (by kernel_rfl) (fun _ _ _ h => h) (fun _ _ h => h.kept (fun _ hk => ⟨hk, rfl⟩)) (Or.inl (Or.inl ⟨by rfl, ?_⟩)) hSd ?_
        rotate_left
        · intro W hSw; (try dsimp only at hSw); first | (go_simp; done) | (go_simp; with_reducible rfl)
        try simp only [Act.put, List.setIfInBounds_toArray, List.set_cons_zero, List.set_cons_succ]
        refine wpAnyD_take (i := 2) (oi := ⟨_, _, _, _, _, _⟩) (v := ?_) rfl (by kernel_rfl) (by kernel_rfl) (by kernel_rfl) (by kernel_rfl) (fun _ _ _ h => h) (fun _ _ h => h.kept (fun _ hk => ⟨hk, rfl⟩)) (Or.inl (Or.inl ⟨by rfl, ?_⟩)) hSd ?_
        rotate_left
        · intro W hSw; (try dsimp only at hSw); first | (go_simp; done) | (go_simp; with_reducible rfl)
        try simp only [Act.put, List.setIfInBounds_toArray, List.set_cons_zero, List.set_cons_succ]
        refine wpAnyD_take (i := 3) (oi := ⟨_, _, _, _, _, _⟩) (v := ?_) rfl (by kernel_rfl) (by kernel_rfl) (by kernel_rfl) (by kernel_rfl) (fun _ _ _ h => h) (fun _ _ h => h.kept (fun _ hk => ⟨hk, rfl⟩)) (Or.inl (Or.inl ⟨by rfl, ?_⟩)) hSd ?_
        rotate_left
        · intro W hSw; (try dsimp only at hSw); first | (go_simp; done) | (go_simp; with_reducible rfl)
        try simp only [Act.put, List.setIfInBounds_toArray, List.set_cons_zero, List.set_cons_succ]
        refine wpAnyD_take (i := 4) (oi := ⟨_, _, _, _, _, _⟩) (v := ?_) rfl (by kernel_rfl) (by kernel_rfl) (by kernel_rfl) (by kernel_rfl) (fun _ _ _ h => h) (fun _ _ h => h.kept (fun _ hk => ⟨hk, rfl⟩)) (Or.inl (Or.inl ⟨by rfl, ?_⟩)) hSd ?_
        rotate_left
        · intro W hSw; (try dsimp only at hSw); have hcl := hSw.cells p (by rw [HM.out]; exact HPM.out); rw [HXP.out] at hcl; first | (go_simp; done) | (go_simp; with_reducible rfl)
        try simp only [Act.put, List.setIfInBounds_toArray, List.set_cons_zero, List.set_cons_succ]
        refine wpAnyD_take (i := 5) (oi := ⟨_, _, _, _, _, _⟩) (v := ?_) rfl (by kernel_rfl) (by kernel_rfl) (by kernel_rfl) (by kernel_rfl) (fun _ _ _ h => h) (fun _ _ h => h.kept (fun _ hk => ⟨hk, rfl⟩)) (Or.inl (Or.inl ⟨by rfl, ?_⟩)) hSd ?_
        rotate_left
        · intro W hSw; (try dsimp only at hSw); first | (go_simp; done) | (go_simp; with_reducible rfl)
        try simp only [Act.put, List.setIfInBounds_toArray, List.set_cons_zero, List.set_cons_succ]
        refine wpAnyD_take (i := 6) (oi := ⟨_, _, _, _, _, _⟩) (v := ?_) rfl (by kernel_rfl) (by kernel_rfl) (by kernel_rfl) (by kernel_rfl) (fun _ _ _ h => h) (fun _ _ h => h.kept (fun _ hk => ⟨hk, rfl⟩)) (Or.inl (Or.inl ⟨by rfl, ?_⟩)) hSd ?_
        rotate_left
        · intro W hSw; (try dsimp only at hSw); first | (go_simp; done) | (go_simp; with_reducible rfl)
        try simp only [Act.put, List.setIfInBounds_toArray, List.set_cons_zero, List.set_cons_succ]
        refine wpAnyD_take (i := 7) (oi := ⟨_, _, _, _, _, _⟩) (v := ?_) rfl (by kernel_rfl) (by kernel_rfl) (by kernel_rfl) (by kernel_rfl) (fun _ _ _ h => h) (fun _ _ h => h.kept (fun _ hk => ⟨hk, rfl⟩)) (Or.inl (Or.inl ⟨by rfl, ?_⟩)) hSd ?_
        rotate_left
        · intro W hSw; (try dsimp only at hSw); first | (go_simp; done) | (go_simp; with_reducible rfl)
        try simp only [Act.put, List.setIfInBounds_toArray, List.set_cons_zero, List.set_cons_succ]
        refine wpAnyD_take (i := 8) (oi := ⟨_, _, _, _, _, _⟩) (v := ?_) rfl (by kernel_rfl) (by kernel_rfl) (by kernel_rfl) (by kernel_rfl) (fun _ _ _ h => h) (fun _ _ h => h.kept (fun _ hk => ⟨hk, rfl⟩)) (Or.inl (Or.inl ⟨by rfl, ?_⟩)) hSd ?_
        rotate_left
        · intro W hSw; (try dsimp only at hSw); have hcl := hSw.cells k (by rw [HM.out]; exact hlt); rw [HXK.out] at hcl; first | (go_simp; done) | (go_simp; with_reducible rfl)
        try simp only [Act.put, List.setIfInBounds_toArray, List.set_cons_zero, List.set_cons_succ]
        clear hSd
        refine wpAnyD_one (i := 9) (o := ⟨_, _, _, _, _, _⟩) (by kernel_rfl) (by decide) rfl (fun nq K hK0 => ?_)
        have hK := Lib.hid hK0
        clear hK0
        go_simp
        refine (dbefore_any X Y _ HXL.out HYL.out).mono ?_
        rintro e w6 ⟨rfl, hb6⟩
        have HB6 : Hid (Below wr.heap.size wr w6) := Lib.hid ((below_drewN wr.heap.size wr (1 + nq)).trans hb6)
        clear hb6
        rw [HLT.out]
        try go_wp2_with fail
        refine hK.out _ _ (HSD.out w6 (fun q hq => HB6.out.block q hq)) ?_
        clear hK K
        try simp only [Act.put, List.setIfInBounds_toArray, List.set_cons_zero, List.set_cons_succ]
        refine wpAnyD_last (by kernel_rfl) (fun nd => ?_)
        refine wpOp_one rfl (by rfl) ?_
        have HB7 : Hid (Below w.heap.size w (w6.drewN nd)) := Lib.hid ((hW.out.trans (HB6.out.mono hW.out.size)).trans (below_drewN _ _ _))
        generalize w6.drewN nd = wa at *
        go_simp
        go_wp2_with fail
        go_roundw
        case rel => exact ⟨k + 1, by omega, Or.inl (by omega), by go_num, hE1, HB7⟩
        case measure => simp [intOf]; omega
    · have hR : Hid (R = true) := Lib.hid (by rw [← hE.out, show m - k = 0 by omega]; rfl)
      go_wp2_with fail
      go_ret
      exact ⟨by rw [hR.out]; rfl, hW.out⟩
theorem lblob_any (a : Option Addr) (n c : Nat) (sz : Int) (w : World) :
    Calls Try.prog 10 #[.agg #[.slice a n c, .int .i64 sz]] w fun e w' => e = .returned (.agg #[.slice a n c, .int .i64 sz]) ∧ Below w.heap.size w w' := by
  have hst := run_storeF
  go_enter Try.func10, Try.ntmps10
  go_wp2_with fail
  refine bodyPost_ret (v := .agg #[.slice a n c, .int .i64 sz]) (by simp [results, Try.results10, go_sem]) rfl ⟨rfl, ?_⟩
  exact ((Below.refl _ w).alloc (Nat.le_refl _) _).alloc (by simp) _
end Go.Proofs.Ytdolonkeanlaoaa
