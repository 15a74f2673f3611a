/- The walk of the law GearCuts, where the measures are right. -/
import Derived.Test.YtgfnlplgkgoinaaGearK
namespace Go.Proofs.Ytgfnlplgkgoinaa
open Go.RowKit
attribute [local go_sem ↓] Go.wp_at_zero Go.wp_at_succ

set_option maxRecDepth 100000 in
set_option maxHeartbeats 16000000 in
theorem law_cuts_long (v : Value) (l0 : List UInt8) (least most bits : Nat) (w : World) (hl : l0.length ≤ 1048576) (hB : BytesC (fun k => k < w.heap.size) w v l0) (hg : wrongN least most bits = false) (h3 : 3000 < l0.length) : Calls Try.prog 3 #[v, par least most bits] w (True' w) := by
  have hst := fun (w : World) (S : Nat → Prop) (v : Value) (l : List UInt8) (h : BytesC S w v l) => bytes_str h
  have HST := Lib.hid hst
  have HB := Lib.hid hB
  obtain ⟨ao, ca, rfl⟩ := hB.shape
  have HC1 := Lib.hid (fun S v l w h1 h2 h3 => cut_ok S v l least most bits w h1 h2 h3 hg)
  have HC2 := Lib.hid (fun S v l w h1 h2 h3 => split_ok S v l least most bits w h1 h2 h3 hg)
  have hc3 := fun w => rwrong_any least most bits w
  have hc4 := fun w => check_any least most bits w
  simp only [hg] at hc3 hc4
  have HC3 := Lib.hid hc3
  have HC4 := Lib.hid hc4
  unfold wrongN at hg
  replace hg := of_decide_eq_false hg
  have hm2 : most ≤ 1048576 := by omega
  have hm3 : bits ≤ 20 := by omega
  have HC5 := Lib.hid (fun s w h => rcut_any s least most bits w h hm2 hm3)
  have HB0 : Hid (Below w.heap.size w (w.alloc (.cells #[.int .i64 least, .int .i64 most, .int .i64 bits] 24))) := Lib.hid ((Below.refl _ _).alloc (Nat.le_refl _) _)
  have HN0 := Lib.hid (new_five w #[.int .i64 least, .int .i64 most, .int .i64 bits] 24)
  clear hB hc3 hc4 hg hst hm2 hm3
  go_enter Try.func3, Try.ntmps3
  go_wp2_with fail
  refine (awake_any _).mono ?_
  rintro e w1 ⟨rfl, hb1⟩
  have hs1 : w.heap.size < w1.heap.size := by have := hb1.size; simp at this; omega
  have HB1 := Lib.hid (HB0.out.trans (hb1.mono (by simp)))
  have HBX := Lib.hid ((hb1.block w.heap.size (by simp)).trans HN0.out)
  have HV1 := Lib.hid (HB.out.kept (S' := fun k => k < w.heap.size) (fun k hk => ⟨hk, HB1.out.block k hk⟩))
  clear hb1
  have hca : 3000 ≤ l0.length → l0.length ≤ ca ∧ ca ≤ 9223372036854775807 := fun h => by
    rcases HB.out with ⟨_, hx⟩ | ⟨aa, ca', h1, hcl, hcm, _⟩
    · rw [hx] at h; simp at h
    · injection h1 with _ _ e; subst e
      unfold maxLen at hcm; omega
  obtain ⟨hca1, hca2⟩ := hca (by omega)
  clear hca
  have hlt : (l0.take 3000).length = 3000 := by rw [List.length_take]; omega
  obtain ⟨l, hle⟩ : ∃ l, l = l0.take 3000 := ⟨_, rfl⟩
  have HV : Hid (BytesC (fun k => k < w.heap.size) w1 (.slice ao l.length ca) l) := Lib.hid (by rw [hle, hlt]; exact cut3000 HV1.out 3000 (by omega) (by omega))
  rw [← hle] at hlt
  have hlm : l.length ≤ 1048576 := by omega
  have HLT := Lib.hid hlt
  clear hlt hle
  obtain ⟨c0, c1, c2⟩ := three_cells HBX.out
  go_wp2_with fail
  rw [← HLT.out]
  refine (HC1.out _ _ l w1 (fun k hk => by omega) HV.out (by omega)).mono ?_
  rintro e w2 ⟨v2, rfl, hown2, hb2⟩
  have hs2 := hb2.size
  have HB2 := Lib.hid (HB1.out.trans (hb2.mono (by omega)))
  have HBX2 := Lib.hid ((hb2.block w.heap.size hs1).trans HBX.out)
  have HO2 := Lib.hid (ownI_c hown2)
  obtain ⟨la, lc, rfl⟩ := ownI_slice hown2
  have HV2 := Lib.hid (HV.out.kept (S' := fun k => k < w.heap.size) (fun k hk => ⟨hk, hb2.block k (by omega)⟩))
  clear c0 c1 c2
  obtain ⟨c0, c1, c2⟩ := three_cells HBX2.out
  clear hb2 hown2
  go_wp2_with fail
  refine (HC2.out _ _ l w2 (fun k hk => by omega) HV2.out (by omega)).mono ?_
  rintro e w3 ⟨v3, vs, rfl, hch, hb3⟩
  have hs3 := hb3.size
  have HB3 := Lib.hid (HB2.out.trans (hb3.mono (by omega)))
  have HBX3 := Lib.hid ((hb3.block w.heap.size (by omega)).trans HBX2.out)
  have HO3 := Lib.hid (HO2.out.kept (S' := fun k => w1.heap.size ≤ k ∧ k < w2.heap.size) (fun k hk => ⟨hk, hb3.block k hk.2⟩))
  have HCH := Lib.hid hch.c
  obtain ⟨xa, xc, rfl⟩ := hch.c.shape
  have HV3 := Lib.hid (HV2.out.kept (S' := fun k => k < w.heap.size) (fun k hk => ⟨hk, hb3.block k (by omega)⟩))
  clear hb3 hch c0 c1 c2
  obtain ⟨c0, c1, c2⟩ := three_cells HBX3.out
  go_wp2_with fail
  refine (HC3.out _).mono ?_
  rintro e w4 ⟨rfl, rfl⟩
  go_wp2_with fail
  go_loopw [10] (fun i wr => ∃ (k n : Nat), i = .int .i64 k ∧ k ≤ l.length ∧ wr = w3.drewN n) (fun i _ => l.length - (intOf i).toNat)
  case atStart => exact ⟨0, 0, rfl, Nat.zero_le _, rfl⟩
  case round =>
    obtain ⟨k, n, rfl, hk, hwr⟩ := hrel
    by_cases hlt : k < l.length ∧ k < 4
    · obtain ⟨hlt1, hlt2⟩ := hlt
      rcases HV3.out with ⟨_, h0⟩ | ⟨aa, ca', h1, hcl, hcm, _, hcv⟩
      · rw [h0] at hlt1; simp at hlt1
      injection h1 with e1 _ e1c
      subst e1 e1c
      have d1 : wr.cell? (aa.add k) = some (.int .u8 (l[k]).toNat) := by rw [hwr]; exact hcv k _ (bv_at hlt1)
      have HWR := Lib.hid hwr
      clear hwr
      have hg1 := fun w => gear_any (l[k]).toNat w (l[k]).toNat_lt
      have hg2 := fun w => rgear_any (l[k]).toNat w (l[k]).toNat_lt
      have HG1 := Lib.hid hg1
      have HG2 := Lib.hid hg2
      clear hcv hg1 hg2
      generalize (l[k]).toNat = x at *
      go_wp2_with fail
      go_quiet ((first | (go_at_call 13; exact quiet_left (HG1.out _)) | (go_at_call 14; exact quiet_left (HG2.out _))))
      go_wp2_with fail
      go_roundw
      case rel => exact ⟨k + 1, n + nq, by go_num, by omega, by rw [HWR.out, World.drewN_drewN]⟩
      case measure => simp [intOf]; omega
    · have hwr' := hwr
      have hw3 : w3.heap.size = wr.heap.size := by rw [hwr]; rfl
      have HBW := Lib.hid (show Below w.heap.size w wr by rw [hwr]; exact HB3.out.trans (below_drewN _ _ _))
      have HF : Hid (∀ w', Below wr.heap.size wr w' → w'.cell? ⟨w.heap.size, 0, none⟩ = some (.int .i64 least) ∧ w'.cell? ⟨w.heap.size, 1, none⟩ = some (.int .i64 most) ∧ w'.cell? ⟨w.heap.size, 2, none⟩ = some (.int .i64 bits) ∧
          (convert 22 9 (.slice ao l.length ca)).run Try.prog w' = .ok (.string ⟨l.toArray⟩) w' ∧ Hid (Below wr.heap.size wr w')) := Lib.hid (fun w' hb => by
        have hbx : w'.heap[w.heap.size]? = some (.cells #[.int .i64 least, .int .i64 most, .int .i64 bits] 24) := (hb.block w.heap.size (by omega)).trans (by rw [hwr]; exact HBX3.out)
        obtain ⟨e0, e1, e2⟩ := three_cells hbx
        exact ⟨e0, e1, e2, HST.out w' (fun k => k < w.heap.size) _ _ (HV3.out.kept (fun k hk => ⟨hk, (hb.block k (by omega)).trans (by rw [hwr]; rfl)⟩)), Lib.hid hb⟩)
      have HI : Hid (∀ w', Below wr.heap.size wr w' → IntsC (fun k => w1.heap.size ≤ k ∧ k < w2.heap.size) w' (.slice la (cutL least most bits l).length lc) (cutL least most bits l)) := Lib.hid (fun w' hb => HO3.out.kept (fun k hk => ⟨hk, (hb.block k (by omega)).trans (by rw [hwr]; rfl)⟩))
      have HX : Hid (∀ w', Below wr.heap.size wr w' → ChunksC (fun k => w2.heap.size ≤ k ∧ k < w3.heap.size) w' (.slice xa (chunksL least most bits l).length xc) (chunksL least most bits l)) := Lib.hid (fun w' hb => HCH.out.kept (fun k hk => ⟨hk, (hb.block k (by omega)).trans (by rw [hwr]; rfl)⟩))
      have HCL := Lib.hid (cut_count least most bits _ l (Nat.le_refl _))
      have HML := Lib.hid (chunks_len least most bits _ l (Nat.le_refl _))
      have HFL := Lib.hid (chunks_flat least most bits _ l (Nat.le_refl _))
      have HCC : Hid ((chunksL least most bits l).length ≤ 4194304) := Lib.hid (by
        have := congrArg List.length HML.out
        rw [List.length_map] at this
        have := HCL.out; omega)
      have HP := Lib.hid (fun (w' : World) (h : w'.cell? ⟨w.heap.size, 0, none⟩ = some (.int .i64 least) ∧ w'.cell? ⟨w.heap.size, 1, none⟩ = some (.int .i64 most) ∧ w'.cell? ⟨w.heap.size, 2, none⟩ = some (.int .i64 bits) ∧ (convert 22 9 (.slice ao l.length ca)).run Try.prog w' = .ok (.string ⟨l.toArray⟩) w' ∧ Hid (Below wr.heap.size wr w')) => h.2.2.2.2.out)
      have h0 := HF.out _ (Below.refl _ wr)
      obtain ⟨e0, e1, e2, e3, e4⟩ := h0
      clear c0 c1 c2 hwr hwr'
      have hend : ¬ k < l.length ∨ (k < l.length ∧ ¬ k < 4) := by omega
      clear hlt
      rcases hend with hk1 | ⟨hk1, hk2⟩
      all_goals
        go_wp2_with fail
        refine wp_region_held_drew (S := (fun w' => w'.cell? ⟨w.heap.size, 0, none⟩ = some (.int .i64 least) ∧ w'.cell? ⟨w.heap.size, 1, none⟩ = some (.int .i64 most) ∧ w'.cell? ⟨w.heap.size, 2, none⟩ = some (.int .i64 bits) ∧ (convert 22 9 (.slice ao l.length ca)).run Try.prog w' = .ok (.string ⟨l.toArray⟩) w' ∧ Hid (Below wr.heap.size wr w'))) (by kernel_rfl) (by first | exact HF.out _ (HP.out _ (by assumption)) | exact HF.out _ (Below.drew (Hid.out (by assumption))) | exact HF.out _ (Hid.out (by assumption))) (fun hHeld => ?_)
        refine wpAnyH_take (i := 0) (oi := ⟨_, _, _, _, _, _⟩) (v := ?_) rfl (by kernel_rfl) (by kernel_rfl) (by kernel_rfl) (fun _ _ _ h => h) (Or.inl ⟨by rfl, ?_⟩) (by assumption) ?_
        rotate_left
        · intro w hSw; (try dsimp only at hSw); first | (go_simp; done) | (go_simp; with_reducible rfl)
        try simp only [Act.put, List.setIfInBounds_toArray, List.set_cons_zero, List.set_cons_succ]
        refine wpAnyH_take (i := 1) (oi := ⟨_, _, _, _, _, _⟩) (v := ?_) rfl (by kernel_rfl) (by kernel_rfl) (by kernel_rfl) (fun _ _ _ h => h) (Or.inl ⟨by rfl, ?_⟩) (by assumption) ?_
        rotate_left
        · intro w hSw; (try dsimp only at hSw); first | (go_simp; done) | (go_simp; with_reducible rfl)
        try simp only [Act.put, List.setIfInBounds_toArray, List.set_cons_zero, List.set_cons_succ]
        refine wpAnyH_take (i := 2) (oi := ⟨_, _, _, _, _, _⟩) (v := ?_) rfl (by kernel_rfl) (by kernel_rfl) (by kernel_rfl) (fun _ _ _ h => h) (Or.inl ⟨by rfl, ?_⟩) (by assumption) ?_
        rotate_left
        · intro w hSw; (try dsimp only at hSw); first | (go_simp; done) | (go_simp; with_reducible rfl)
        try simp only [Act.put, List.setIfInBounds_toArray, List.set_cons_zero, List.set_cons_succ]
        refine wpAnyH_take (i := 3) (oi := ⟨_, _, _, _, _, _⟩) (v := ?_) rfl (by kernel_rfl) (by kernel_rfl) (by kernel_rfl) (fun _ _ _ h => h) (Or.inl ⟨by rfl, ?_⟩) (by assumption) ?_
        rotate_left
        · intro w hSw; (try dsimp only at hSw); first | (go_simp; done) | (go_simp; with_reducible rfl)
        try simp only [Act.put, List.setIfInBounds_toArray, List.set_cons_zero, List.set_cons_succ]
        refine wpAnyH_take (i := 4) (oi := ⟨_, _, _, _, _, _⟩) (v := ?_) rfl (by kernel_rfl) (by kernel_rfl) (by kernel_rfl) (fun _ _ _ h => h) (Or.inl ⟨by rfl, ?_⟩) (by assumption) ?_
        rotate_left
        · intro w hSw; (try dsimp only at hSw); first | (go_simp; done) | (go_simp; with_reducible rfl)
        try simp only [Act.put, List.setIfInBounds_toArray, List.set_cons_zero, List.set_cons_succ]
        refine wpAnyH_take (i := 5) (oi := ⟨_, _, _, _, _, _⟩) (v := ?_) rfl (by kernel_rfl) (by kernel_rfl) (by kernel_rfl) (fun _ _ _ h => h) (Or.inl ⟨by rfl, ?_⟩) (by assumption) ?_
        rotate_left
        · intro w hSw; (try dsimp only at hSw); first | (go_simp; done) | (go_simp; with_reducible rfl)
        try simp only [Act.put, List.setIfInBounds_toArray, List.set_cons_zero, List.set_cons_succ]
        refine wpAnyH_take (i := 6) (oi := ⟨_, _, _, _, _, _⟩) (v := ?_) rfl (by kernel_rfl) (by kernel_rfl) (by kernel_rfl) (fun _ _ _ h => h) (Or.inl ⟨by rfl, ?_⟩) (by assumption) ?_
        rotate_left
        · intro w hSw; (try dsimp only at hSw); first | (go_simp; done) | (go_simp; with_reducible rfl)
        try simp only [Act.put, List.setIfInBounds_toArray, List.set_cons_zero, List.set_cons_succ]
        refine wpAnyH_take (i := 7) (oi := ⟨_, _, _, _, _, _⟩) (v := ?_) rfl (by kernel_rfl) (by kernel_rfl) (by kernel_rfl) (fun _ _ _ h => h) (Or.inl ⟨by rfl, ?_⟩) (by assumption) ?_
        rotate_left
        · intro w hSw; (try dsimp only at hSw); first | (go_simp; done) | (go_simp; with_reducible rfl)
        try simp only [Act.put, List.setIfInBounds_toArray, List.set_cons_zero, List.set_cons_succ]
        refine wpAnyH_ready (rs := [8]) (by kernel_rfl) (by simp) ?_
        refine AllReadyH.cons (o := ⟨_, _, _, _, _, _⟩) rfl (fun K hK => ?_) AllReadyH.nil
        go_simp
        refine (HC4.out _).mono ?_; rintro e w5 ⟨rfl, hb5⟩; have H5 := Lib.hid (below_tr (HP.out _ (by assumption)) hb5); clear hb5
        try go_wp2_with fail
        refine hK.out _ _ (by first | exact HF.out _ (HP.out _ (by assumption)) | exact HF.out _ (Below.drew (Hid.out (by assumption))) | exact HF.out _ (Hid.out (by assumption))) (fun hHeld => ?_)
        clear hK K
        try simp only [Act.put, List.setIfInBounds_toArray, List.set_cons_zero, List.set_cons_succ]
        refine wpAnyH_take (i := 9) (oi := ⟨_, _, _, _, _, _⟩) (v := ?_) rfl (by kernel_rfl) (by kernel_rfl) (by kernel_rfl) (fun _ _ _ h => h) (Or.inl ⟨by rfl, ?_⟩) (by assumption) ?_
        rotate_left
        · intro w hSw; (try dsimp only at hSw); first | (go_simp; done) | (go_simp; with_reducible rfl)
        try simp only [Act.put, List.setIfInBounds_toArray, List.set_cons_zero, List.set_cons_succ]
        refine wpAnyH_take (i := 10) (oi := ⟨_, _, _, _, _, _⟩) (v := ?_) rfl (by kernel_rfl) (by kernel_rfl) (by kernel_rfl) (fun _ _ _ h => h) (Or.inl ⟨by rfl, ?_⟩) (by assumption) ?_
        rotate_left
        · intro w hSw; (try dsimp only at hSw); first | (go_simp; done) | (go_simp; with_reducible rfl)
        try simp only [Act.put, List.setIfInBounds_toArray, List.set_cons_zero, List.set_cons_succ]
        refine wpAnyH_take (i := 11) (oi := ⟨_, _, _, _, _, _⟩) (v := ?_) rfl (by kernel_rfl) (by kernel_rfl) (by kernel_rfl) (fun _ _ _ h => h) (Or.inl ⟨by rfl, ?_⟩) (by assumption) ?_
        rotate_left
        · intro w hSw; (try dsimp only at hSw); first | (go_simp; done) | (go_simp; with_reducible rfl)
        try simp only [Act.put, List.setIfInBounds_toArray, List.set_cons_zero, List.set_cons_succ]
        refine wpAnyH_take (i := 12) (oi := ⟨_, _, _, _, _, _⟩) (v := ?_) rfl (by kernel_rfl) (by kernel_rfl) (by kernel_rfl) (fun _ _ _ h => h) (Or.inl ⟨by rfl, ?_⟩) (by assumption) ?_
        rotate_left
        · intro w hSw; (try dsimp only at hSw); first | (go_simp; done) | (go_simp; with_reducible rfl)
        try simp only [Act.put, List.setIfInBounds_toArray, List.set_cons_zero, List.set_cons_succ]
        refine wpAnyH_take (i := 13) (oi := ⟨_, _, _, _, _, _⟩) (v := ?_) rfl (by kernel_rfl) (by kernel_rfl) (by kernel_rfl) (fun _ _ _ h => h) (Or.inl ⟨by rfl, ?_⟩) (by assumption) ?_
        rotate_left
        · intro w hSw; (try dsimp only at hSw); first | (go_simp; done) | (go_simp; with_reducible rfl)
        try simp only [Act.put, List.setIfInBounds_toArray, List.set_cons_zero, List.set_cons_succ]
        refine wpAnyH_take (i := 14) (oi := ⟨_, _, _, _, _, _⟩) (v := ?_) rfl (by kernel_rfl) (by kernel_rfl) (by kernel_rfl) (fun _ _ _ h => h) (Or.inl ⟨by rfl, ?_⟩) (by assumption) ?_
        rotate_left
        · intro w hSw; (try dsimp only at hSw); first | (go_simp; done) | (go_simp; with_reducible rfl)
        try simp only [Act.put, List.setIfInBounds_toArray, List.set_cons_zero, List.set_cons_succ]
        refine wpAnyH_take (i := 15) (oi := ⟨_, _, _, _, _, _⟩) (v := ?_) rfl (by kernel_rfl) (by kernel_rfl) (by kernel_rfl) (fun _ _ _ h => h) (Or.inl ⟨by rfl, ?_⟩) (by assumption) ?_
        rotate_left
        · intro w hSw; (try dsimp only at hSw); first | (go_simp; done) | (go_simp; with_reducible rfl)
        try simp only [Act.put, List.setIfInBounds_toArray, List.set_cons_zero, List.set_cons_succ]
        refine wpAnyH_take (i := 16) (oi := ⟨_, _, _, _, _, _⟩) (v := ?_) rfl (by kernel_rfl) (by kernel_rfl) (by kernel_rfl) (fun _ _ _ h => h) (Or.inl ⟨by rfl, ?_⟩) (by assumption) ?_
        rotate_left
        · intro w hSw; (try dsimp only at hSw); first | (go_simp; done) | (go_simp; with_reducible rfl)
        try simp only [Act.put, List.setIfInBounds_toArray, List.set_cons_zero, List.set_cons_succ]
        refine wpAnyH_take (i := 17) (oi := ⟨_, _, _, _, _, _⟩) (v := ?_) rfl (by kernel_rfl) (by kernel_rfl) (by kernel_rfl) (fun _ _ _ h => h) (Or.inl ⟨by rfl, ?_⟩) (by assumption) ?_
        rotate_left
        · intro w hSw; (try dsimp only at hSw); first | (go_simp; done) | (go_simp; with_reducible rfl)
        try simp only [Act.put, List.setIfInBounds_toArray, List.set_cons_zero, List.set_cons_succ]
        refine wpAnyH_take (i := 18) (oi := ⟨_, _, _, _, _, _⟩) (v := ?_) rfl (by kernel_rfl) (by kernel_rfl) (by kernel_rfl) (fun _ _ _ h => h) (Or.inl ⟨by rfl, ?_⟩) (by assumption) ?_
        rotate_left
        · intro w hSw; (try dsimp only at hSw); first | (go_simp; done) | (go_simp; with_reducible rfl)
        try simp only [Act.put, List.setIfInBounds_toArray, List.set_cons_zero, List.set_cons_succ]
        refine wpAnyH_take (i := 19) (oi := ⟨_, _, _, _, _, _⟩) (v := ?_) rfl (by kernel_rfl) (by kernel_rfl) (by kernel_rfl) (fun _ _ _ h => h) (Or.inl ⟨by rfl, ?_⟩) (by assumption) ?_
        rotate_left
        · intro w hSw; (try dsimp only at hSw); first | (go_simp; done) | (go_simp; with_reducible rfl)
        try simp only [Act.put, List.setIfInBounds_toArray, List.set_cons_zero, List.set_cons_succ]
        refine wpAnyH_take (i := 20) (oi := ⟨_, _, _, _, _, _⟩) (v := ?_) rfl (by kernel_rfl) (by kernel_rfl) (by kernel_rfl) (fun _ _ _ h => h) (Or.inl ⟨by rfl, ?_⟩) (by assumption) ?_
        rotate_left
        · intro w hSw; (try dsimp only at hSw); first | (go_simp; done) | (go_simp; with_reducible rfl)
        try simp only [Act.put, List.setIfInBounds_toArray, List.set_cons_zero, List.set_cons_succ]
        refine wpAnyH_ready (rs := [21]) (by kernel_rfl) (by simp) ?_
        refine AllReadyH.cons (o := ⟨_, _, _, _, _, _⟩) rfl (fun K hK => ?_) AllReadyH.nil
        go_simp
        refine (HC5.out l _ (by omega)).mono ?_; rintro e w6 ⟨v6, rfl, ho6, hb6⟩; have H6 := Lib.hid (below_tr (HP.out _ (by assumption)) hb6); have HO6 := Lib.hid (ownI_c ho6); obtain ⟨a6, c6, rfl⟩ := ownI_slice ho6; clear ho6 hb6
        try go_wp2_with fail
        refine hK.out _ _ (by first | exact HF.out _ (HP.out _ (by assumption)) | exact HF.out _ (Below.drew (Hid.out (by assumption))) | exact HF.out _ (Hid.out (by assumption))) (fun hHeld => ?_)
        clear hK K
        try simp only [Act.put, List.setIfInBounds_toArray, List.set_cons_zero, List.set_cons_succ]
        refine wpAnyH_ready (rs := [22]) (by kernel_rfl) (by simp) ?_
        refine AllReadyH.cons (o := ⟨_, _, _, _, _, _⟩) rfl (fun K hK => ?_) AllReadyH.nil
        go_simp
        refine (same_true _ _ _ _ _ _ (HI.out _ H6.out) HO6.out (by have := HCL.out; omega)).mono ?_; rintro e w7 ⟨rfl, n7, rfl⟩; have H7 := Lib.hid (below_tn H6.out n7)
        try go_wp2_with fail
        refine hK.out _ _ (by first | exact HF.out _ (HP.out _ (by assumption)) | exact HF.out _ (Below.drew (Hid.out (by assumption))) | exact HF.out _ (Hid.out (by assumption))) (fun hHeld => ?_)
        clear hK K
        try simp only [Act.put, List.setIfInBounds_toArray, List.set_cons_zero, List.set_cons_succ]
        refine wpAnyH_take (i := 23) (oi := ⟨_, _, _, _, _, _⟩) (v := ?_) rfl (by kernel_rfl) (by kernel_rfl) (by kernel_rfl) (fun _ _ _ h => h) (Or.inl ⟨by rfl, ?_⟩) (by assumption) ?_
        rotate_left
        · intro w hSw; (try dsimp only at hSw); first | (go_simp; done) | (go_simp; with_reducible rfl)
        try simp only [Act.put, List.setIfInBounds_toArray, List.set_cons_zero, List.set_cons_succ]
        refine wpAnyH_take (i := 24) (oi := ⟨_, _, _, _, _, _⟩) (v := ?_) rfl (by kernel_rfl) (by kernel_rfl) (by kernel_rfl) (fun _ _ _ h => h) (Or.inl ⟨by rfl, ?_⟩) (by assumption) ?_
        rotate_left
        · intro w hSw; (try dsimp only at hSw); first | (go_simp; done) | (go_simp; with_reducible rfl)
        try simp only [Act.put, List.setIfInBounds_toArray, List.set_cons_zero, List.set_cons_succ]
        refine wpAnyH_take (i := 25) (oi := ⟨_, _, _, _, _, _⟩) (v := ?_) rfl (by kernel_rfl) (by kernel_rfl) (by kernel_rfl) (fun _ _ _ h => h) (Or.inl ⟨by rfl, ?_⟩) (by assumption) ?_
        rotate_left
        · intro w hSw; (try dsimp only at hSw); first | (go_simp; done) | (go_simp; with_reducible rfl)
        try simp only [Act.put, List.setIfInBounds_toArray, List.set_cons_zero, List.set_cons_succ]
        refine wpAnyH_take (i := 26) (oi := ⟨_, _, _, _, _, _⟩) (v := ?_) rfl (by kernel_rfl) (by kernel_rfl) (by kernel_rfl) (fun _ _ _ h => h) (Or.inl ⟨by rfl, ?_⟩) (by assumption) ?_
        rotate_left
        · intro w hSw; (try dsimp only at hSw); first | (go_simp; done) | (go_simp; with_reducible rfl)
        try simp only [Act.put, List.setIfInBounds_toArray, List.set_cons_zero, List.set_cons_succ]
        refine wpAnyH_ready (rs := [27]) (by kernel_rfl) (by simp) ?_
        refine AllReadyH.cons (o := ⟨_, _, _, _, _, _⟩) rfl (fun K hK => ?_) AllReadyH.nil
        go_simp
        refine (lengths_any _ _ _ _ (fun k hk => Nat.lt_of_lt_of_le hk.2 (Nat.le_trans (Nat.le_of_eq hw3) (Below.size (HP.out _ (by assumption))))) (HX.out _ (HP.out _ (by assumption))) HCC.out).mono ?_; rw [HML.out]; rintro e w8 ⟨v8, rfl, ho8, hb8⟩; have H8 := Lib.hid (below_tr (HP.out _ (by assumption)) hb8); have HO8 := Lib.hid (ownI_c ho8); obtain ⟨a8, c8, rfl⟩ := ownI_slice ho8; clear ho8 hb8
        try go_wp2_with fail
        refine hK.out _ _ (by first | exact HF.out _ (HP.out _ (by assumption)) | exact HF.out _ (Below.drew (Hid.out (by assumption))) | exact HF.out _ (Hid.out (by assumption))) (fun hHeld => ?_)
        clear hK K
        try simp only [Act.put, List.setIfInBounds_toArray, List.set_cons_zero, List.set_cons_succ]
        refine wpAnyH_ready (rs := [28]) (by kernel_rfl) (by simp) ?_
        refine AllReadyH.cons (o := ⟨_, _, _, _, _, _⟩) rfl (fun K hK => ?_) AllReadyH.nil
        go_simp
        refine (same_true _ _ _ _ _ _ (HI.out _ H8.out) HO8.out (by have := HCL.out; omega)).mono ?_; rintro e w9 ⟨rfl, n9, rfl⟩; have H9 := Lib.hid (below_tn H8.out n9)
        try go_wp2_with fail
        refine hK.out _ _ (by first | exact HF.out _ (HP.out _ (by assumption)) | exact HF.out _ (Below.drew (Hid.out (by assumption))) | exact HF.out _ (Hid.out (by assumption))) (fun hHeld => ?_)
        clear hK K
        try simp only [Act.put, List.setIfInBounds_toArray, List.set_cons_zero, List.set_cons_succ]
        refine wpAnyH_take (i := 29) (oi := ⟨_, _, _, _, _, _⟩) (v := ?_) rfl (by kernel_rfl) (by kernel_rfl) (by kernel_rfl) (fun _ _ _ h => h) (Or.inl ⟨by rfl, ?_⟩) (by assumption) ?_
        rotate_left
        · intro w hSw; (try dsimp only at hSw); first | (go_simp; done) | (go_simp; with_reducible rfl)
        try simp only [Act.put, List.setIfInBounds_toArray, List.set_cons_zero, List.set_cons_succ]
        refine wpAnyH_take (i := 30) (oi := ⟨_, _, _, _, _, _⟩) (v := ?_) rfl (by kernel_rfl) (by kernel_rfl) (by kernel_rfl) (fun _ _ _ h => h) (Or.inl ⟨by rfl, ?_⟩) (by assumption) ?_
        rotate_left
        · intro w hSw; (try dsimp only at hSw); first | (go_simp; done) | (go_simp; with_reducible rfl)
        try simp only [Act.put, List.setIfInBounds_toArray, List.set_cons_zero, List.set_cons_succ]
        refine wpAnyH_take (i := 31) (oi := ⟨_, _, _, _, _, _⟩) (v := ?_) rfl (by kernel_rfl) (by kernel_rfl) (by kernel_rfl) (fun _ _ _ h => h) (Or.inl ⟨by rfl, ?_⟩) (by assumption) ?_
        rotate_left
        · intro w hSw; (try dsimp only at hSw); first | (go_simp; done) | (go_simp; with_reducible rfl)
        try simp only [Act.put, List.setIfInBounds_toArray, List.set_cons_zero, List.set_cons_succ]
        refine wpAnyH_take (i := 34) (oi := ⟨_, _, _, _, _, _⟩) (v := ?_) rfl (by kernel_rfl) (by kernel_rfl) (by kernel_rfl) (fun _ _ _ h => h) (Or.inl ⟨by rfl, ?_⟩) (by assumption) ?_
        rotate_left
        · intro w hSw; (try dsimp only at hSw); first | (go_simp; done) | (go_simp; with_reducible rfl)
        try simp only [Act.put, List.setIfInBounds_toArray, List.set_cons_zero, List.set_cons_succ]
        refine wpAnyH_take (i := 35) (oi := ⟨_, _, _, _, _, _⟩) (v := ?_) rfl (by kernel_rfl) (by kernel_rfl) (by kernel_rfl) (fun _ _ _ h => h) (Or.inl ⟨by rfl, ?_⟩) (by assumption) ?_
        rotate_left
        · intro w hSw; (try dsimp only at hSw); first | (go_simp; done) | (go_simp; with_reducible rfl)
        try simp only [Act.put, List.setIfInBounds_toArray, List.set_cons_zero, List.set_cons_succ]
        refine wpAnyH_ready (rs := [32]) (by kernel_rfl) (by simp) ?_
        refine AllReadyH.cons (o := ⟨_, _, _, _, _, _⟩) rfl (fun K hK => ?_) AllReadyH.nil
        go_simp
        refine (join_any _ _ _ _ (fun k hk => Nat.lt_of_lt_of_le hk.2 (Nat.le_trans (Nat.le_of_eq hw3) (Below.size (HP.out _ (by assumption))))) (HX.out _ (HP.out _ (by assumption))) (by rw [HFL.out]; omega) HCC.out).mono ?_; rw [HFL.out]; rintro e wA ⟨vA, rfl, hoA, hbA⟩; have HA := Lib.hid (below_tr (HP.out _ (by assumption)) hbA); have hcA := HST.out wA _ _ _ (own_c hoA); obtain ⟨aA, cA, rfl⟩ := own_slice hoA; clear hoA hbA
        try go_wp2_with fail
        refine hK.out _ _ (by first | exact HF.out _ (HP.out _ (by assumption)) | exact HF.out _ (Below.drew (Hid.out (by assumption))) | exact HF.out _ (Hid.out (by assumption))) (fun hHeld => ?_)
        clear hK K
        try simp only [Act.put, List.setIfInBounds_toArray, List.set_cons_zero, List.set_cons_succ]
        refine wpAnyH_ready (rs := [33]) (by kernel_rfl) (by simp) ?_
        refine AllReadyH.cons (o := ⟨_, _, _, _, _, _⟩) rfl (fun K hK => ?_) AllReadyH.nil
        go_simp
        try go_wp2_with fail
        refine hK.out _ _ (by first | exact HF.out _ (HP.out _ (by assumption)) | exact HF.out _ (Below.drew (Hid.out (by assumption))) | exact HF.out _ (Hid.out (by assumption))) (fun hHeld => ?_)
        clear hK K
        try simp only [Act.put, List.setIfInBounds_toArray, List.set_cons_zero, List.set_cons_succ]
        refine wpAnyH_take (i := 36) (oi := ⟨_, _, _, _, _, _⟩) (v := ?_) rfl (by kernel_rfl) (by kernel_rfl) (by kernel_rfl) (fun _ _ _ h => h) (Or.inl ⟨by rfl, ?_⟩) (by assumption) ?_
        rotate_left
        · intro w hSw; (try dsimp only at hSw); first | (go_simp; done) | (go_simp; with_reducible rfl)
        try simp only [Act.put, List.setIfInBounds_toArray, List.set_cons_zero, List.set_cons_succ]
        refine wpAnyH_take (i := 37) (oi := ⟨_, _, _, _, _, _⟩) (v := ?_) rfl (by kernel_rfl) (by kernel_rfl) (by kernel_rfl) (fun _ _ _ h => h) (Or.inl ⟨by rfl, ?_⟩) (by assumption) ?_
        rotate_left
        · intro w hSw; (try dsimp only at hSw); first | (go_simp; done) | (go_simp; with_reducible rfl)
        try simp only [Act.put, List.setIfInBounds_toArray, List.set_cons_zero, List.set_cons_succ]
        refine wpAnyH_take (i := 38) (oi := ⟨_, _, _, _, _, _⟩) (v := ?_) rfl (by kernel_rfl) (by kernel_rfl) (by kernel_rfl) (fun _ _ _ h => h) (Or.inl ⟨by rfl, ?_⟩) (by assumption) ?_
        rotate_left
        · intro w hSw; (try dsimp only at hSw); first | (go_simp; done) | (go_simp; with_reducible rfl)
        try simp only [Act.put, List.setIfInBounds_toArray, List.set_cons_zero, List.set_cons_succ]
        refine wpAnyH_done (by kernel_rfl) ?_ _
        go_wp2_with fail
        go_ret
        exact ⟨rfl, HBW.out.trans (HA.out.mono (HBW.out).size)⟩
end Go.Proofs.Ytgfnlplgkgoinaa
