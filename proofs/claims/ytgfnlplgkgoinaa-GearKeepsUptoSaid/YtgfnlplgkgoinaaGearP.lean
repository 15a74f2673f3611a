/- The walk of the law GearBounds. -/
import Derived.Test.YtgfnlplgkgoinaaGearK
namespace Go.Proofs.Ytgfnlplgkgoinaa
open Go.RowKit
attribute [local go_sem ↓] Go.wp_at_zero Go.wp_at_succ

theorem nextFrom_min (P : Nat → Bool) : ∀ (f n j : Nat), n ≤ j → j < nextFrom P n f → P j = false
  | 0, n, j, h1, h2 => by simp only [nextFrom] at h2; omega
  | f + 1, n, j, h1, h2 => by
    simp only [nextFrom] at h2
    by_cases hp : P n = true
    · rw [if_pos hp] at h2; omega
    · rw [if_neg hp] at h2
      by_cases hj : j = n
      · subst hj; simpa using hp
      · exact nextFrom_min P f (n + 1) j (by omega) h2
theorem nextFrom_at (P : Nat → Bool) : ∀ (f n : Nat), nextFrom P n f < n + f → P (nextFrom P n f) = true
  | 0, n, h => by simp only [nextFrom] at h; omega
  | f + 1, n, h => by
    simp only [nextFrom] at h ⊢
    by_cases hp : P n = true
    · rw [if_pos hp]; exact hp
    · rw [if_neg hp] at h ⊢
      exact nextFrom_at P f (n + 1) (by omega)
theorem nextLen_most {least most bits : Nat} {l : List UInt8} (hm : 1 ≤ most) : nextLen least most bits l ≤ most := by
  refine Nat.le_of_not_lt (fun h => ?_)
  have := nextFrom_min (endAt least most bits l) (l.length - 1) 1 most hm h
  unfold endAt at this
  rw [decide_eq_true rfl] at this
  simp at this
theorem nextLen_least {least most bits : Nat} {l : List UInt8} (hm : least ≤ most) (h : nextLen least most bits l < l.length) : least ≤ nextLen least most bits l := by
  have := nextFrom_at (endAt least most bits l) (l.length - 1) 1 (by unfold nextLen at h; omega)
  change endAt least most bits l (nextLen least most bits l) = true at this
  generalize nextLen least most bits l = m at *
  unfold endAt at this
  rcases Bool.or_eq_true _ _ ▸ this with h1 | h1
  · have := of_decide_eq_true h1
    omega
  · simp at h1
    exact h1.1
theorem chunk_bounds (least most bits : Nat) (hm : 1 ≤ most) (hlm : least ≤ most) : ∀ (n : Nat) (l : List UInt8), l.length ≤ n → ∀ j (h : j < (chunksL least most bits l).length), 1 ≤ ((chunksL least most bits l)[j]).length ∧ ((chunksL least most bits l)[j]).length ≤ most ∧ (j + 1 < (chunksL least most bits l).length → least ≤ ((chunksL least most bits l)[j]).length)
  | 0, l, h, j, hj => by
    obtain rfl : l = [] := List.length_eq_zero_iff.1 (by omega)
    rw [chunksL_nil] at hj; simp at hj
  | n + 1, l, h, j, hj => by
    by_cases hl : l = []
    · subst hl; rw [chunksL_nil] at hj; simp at hj
    · have h1 := nextLen_pos least most bits l
      have h2 := nextLen_le least most bits l hl
      have h3 := nextLen_most (least := least) (bits := bits) (l := l) hm
      have e := chunksL_cons (least := least) (most := most) (bits := bits) hl
      simp only [e] at hj ⊢
      cases j with
      | zero =>
        simp only [List.getElem_cons_zero, List.length_cons, List.length_take, Nat.min_eq_left h2]
        refine ⟨h1, h3, fun h4 => nextLen_least hlm ?_⟩
        refine Nat.lt_of_not_le (fun h5 => ?_)
        rw [List.drop_eq_nil_of_le h5, chunksL_nil] at h4
        simp at h4
      | succ j =>
        simp only [List.getElem_cons_succ, List.length_cons]
        simp only [List.length_cons] at hj
        have := chunk_bounds least most bits hm hlm n (l.drop (nextLen least most bits l)) (by rw [List.length_drop]; omega) j (by omega)
        exact ⟨this.1, this.2.1, fun h4 => this.2.2 (by omega)⟩
set_option maxRecDepth 100000 in
set_option maxHeartbeats 4000000 in
theorem law_bounds_bad (v : Value) (a b c : Int) (w : World) (hg : wrongN a b c = true) : Calls Try.prog 4 #[v, par a b c] w (True' w) := by
  have HC2 := Lib.hid (fun v w => split_bad v a b c w hg)
  have HB0 : Hid (Below w.heap.size w (w.alloc (.cells #[.int .i64 a, .int .i64 b, .int .i64 c] 24))) := Lib.hid ((Below.refl _ _).alloc (Nat.le_refl _) _)
  have HN0 := Lib.hid (new_five w #[.int .i64 a, .int .i64 b, .int .i64 c] 24)
  clear hg
  go_enter Try.func4, Try.ntmps4
  go_wp2_with fail
  refine (awake_any _).mono ?_
  rintro e w1 ⟨rfl, hb1⟩
  have HB1 := Lib.hid (HB0.out.trans (hb1.mono (by simp)))
  obtain ⟨c0, c1, c2⟩ := three_cells ((hb1.block w.heap.size (by simp)).trans HN0.out)
  clear hb1
  go_wp2_with fail
  refine (HC2.out _ _).mono ?_
  rintro e w3 ⟨rfl, hb3⟩
  have HB3 := Lib.hid (HB1.out.trans (hb3.mono HB1.out.size))
  clear hb3
  go_wp2_with fail
  go_ret
  exact ⟨rfl, HB3.out⟩
set_option maxRecDepth 100000 in
set_option maxHeartbeats 16000000 in
theorem law_bounds_ok (v : Value) (l : List UInt8) (least most bits : Nat) (w : World) (hl : l.length ≤ 1048576) (hB : BytesC (fun k => k < w.heap.size) w v l) (hg : wrongN least most bits = false) : Calls Try.prog 4 #[v, par least most bits] w (True' w) := by
  have hst := fun (w : World) (S : Nat → Prop) (v : Value) (l : List UInt8) (h : BytesC S w v l) => bytes_str h
  have HST := Lib.hid hst
  have HB := Lib.hid hB
  obtain ⟨ao, ca, rfl⟩ := hB.shape
  have HC2 := Lib.hid (fun S v l w h1 h2 h3 => split_ok S v l least most bits w h1 h2 h3 hg)
  unfold wrongN at hg
  replace hg := of_decide_eq_false hg
  have HBD := Lib.hid (chunk_bounds least most bits (by omega) (by omega) _ l (Nat.le_refl _))
  have HB0 : Hid (Below w.heap.size w (w.alloc (.cells #[.int .i64 least, .int .i64 most, .int .i64 bits] 24))) := Lib.hid ((Below.refl _ _).alloc (Nat.le_refl _) _)
  have HN0 := Lib.hid (new_five w #[.int .i64 least, .int .i64 most, .int .i64 bits] 24)
  have HML := Lib.hid (chunks_len least most bits _ l (Nat.le_refl _))
  have HFL := Lib.hid (chunks_flat least most bits _ l (Nat.le_refl _))
  have hcl := cut_count least most bits _ l (Nat.le_refl _)
  have hcc : (chunksL least most bits l).length ≤ 4194304 := by
    have := congrArg List.length HML.out
    rw [List.length_map] at this
    omega
  have HNL : Hid (l = [] → chunksL least most bits l = []) := Lib.hid (fun h => by rw [h, chunksL_nil])
  clear hB hg hst hcl HML
  go_enter Try.func4, Try.ntmps4
  go_wp2_with fail
  refine (awake_any _).mono ?_
  rintro e w1 ⟨rfl, hb1⟩
  have hs1 : w.heap.size < w1.heap.size := by have := hb1.size; simp at this; omega
  have HB1 := Lib.hid (HB0.out.trans (hb1.mono (by simp)))
  have HBX := Lib.hid ((hb1.block w.heap.size (by simp)).trans HN0.out)
  have HV := Lib.hid (HB.out.kept (S' := fun k => k < w.heap.size) (fun k hk => ⟨hk, HB1.out.block k hk⟩))
  obtain ⟨c0, c1, c2⟩ := three_cells HBX.out
  clear hb1
  go_wp2_with fail
  refine (HC2.out _ _ l w1 (fun k hk => by omega) HV.out (by omega)).mono ?_
  rintro e w3 ⟨v3, vs, rfl, hch, hb3⟩
  have hs3 := hb3.size
  have HB3 := Lib.hid (HB1.out.trans (hb3.mono (by omega)))
  have HBX3 := Lib.hid ((hb3.block w.heap.size (by omega)).trans HBX.out)
  have HCH := Lib.hid hch.c
  obtain ⟨xa, xc, rfl⟩ := hch.c.shape
  have HV3 := Lib.hid (HV.out.kept (S' := fun k => k < w.heap.size) (fun k hk => ⟨hk, hb3.block k (by omega)⟩))
  clear hb3 hch c0 c1 c2
  obtain ⟨c0, c1, c2⟩ := three_cells HBX3.out
  generalize chunksL least most bits l = ls at *
  go_wp2_with fail
  go_loop [24] (fun i => ∃ (k : Nat), i = .int .i64 k ∧ k ≤ ls.length) (fun i => ls.length - (intOf i).toNat)
  case atStart => exact ⟨0, rfl, Nat.zero_le _⟩
  case round =>
    obtain ⟨k, rfl, hk⟩ := hrel
    by_cases hlt : k < ls.length
    · obtain ⟨b1, b2, b3⟩ := HBD.out k hlt
      rcases HCH.out with ⟨_, h0⟩ | ⟨aa, ca', h1, hcl, hcm, _, hcv⟩
      · rw [h0] at hlt; simp at hlt
      injection h1 with e1 _ e1c
      subst e1 e1c
      obtain ⟨vj, d1, hvj⟩ := hcv k _ (List.getElem?_eq_getElem hlt)
      obtain ⟨ja, jc, rfl⟩ := hvj.shape
      clear hcv hvj
      generalize ls[k].length = x at *
      have g1 : decide ((x : Int) < 1) = false := by simp; omega
      have g2 : decide (most < x) = false := by simp; omega
      by_cases hls : x < least
      · have g3 : decide (x < least) = true := by simp; omega
        have hkk : ¬ k + 1 < ls.length := fun h => by have := b3 h; omega
        have g4 : decide ((k : Int) < (ls.length : Int) - 1) = false := by simp; omega
        have hbl : k + 1 = ls.length := by omega
        clear b1 b2 b3 hls hkk
        have HBL := Lib.hid hbl
        clear hbl
        go_wp2_with fail
        go_round
        case rel => exact ⟨k + 1, by go_num, by omega⟩
        case measure => simp [intOf]; omega
      · have g3 : decide (x < least) = false := by simp; omega
        clear b1 b2 b3 hls
        go_wp2_with fail
        go_round
        case rel => exact ⟨k + 1, by go_num, by omega⟩
        case measure => simp [intOf]; omega
    · have hkl : ¬ k < ls.length := hlt
      have HF : Hid (∀ w', Below w3.heap.size w3 w' → (convert 22 9 (.slice ao l.length ca)).run Try.prog w' = .ok (.string ⟨l.toArray⟩) w' ∧ Hid (Below w3.heap.size w3 w')) := Lib.hid (fun w' hb =>
        ⟨HST.out w' (fun k => k < w.heap.size) _ _ (HV3.out.kept (fun k hk => ⟨hk, hb.block k (by omega)⟩)), Lib.hid hb⟩)
      have HP := Lib.hid (fun (w' : World) (h : (convert 22 9 (.slice ao l.length ca)).run Try.prog w' = .ok (.string ⟨l.toArray⟩) w' ∧ Hid (Below w3.heap.size w3 w')) => h.2.out)
      have HX : Hid (∀ w', Below w3.heap.size w3 w' → ChunksC (fun k => w1.heap.size ≤ k ∧ k < w3.heap.size) w' (.slice xa ls.length xc) ls) := Lib.hid (fun w' hb => HCH.out.kept (fun k hk => ⟨hk, hb.block k hk.2⟩))
      have h0 := HF.out _ (Below.refl _ w3)
      obtain ⟨e3, e4⟩ := h0
      by_cases hl0 : 0 < l.length
      all_goals
        first
          | (have g5 : decide (0 < l.length) = true := by simpa using hl0)
          | (have g5 : decide (0 < l.length) = false := by simpa using hl0
             have hll : ls = [] := HNL.out (List.length_eq_zero_iff.1 (by omega))
             have g6 : ((ls.length : Int) == 0) = true := by rw [hll]; rfl
             clear hll)
        go_wp2_with fail
        refine wp_region_held_drew (S := (fun w' => (convert 22 9 (.slice ao l.length ca)).run Try.prog w' = .ok (.string ⟨l.toArray⟩) w' ∧ Hid (Below w3.heap.size w3 w'))) (by kernel_rfl) (by first | exact HF.out _ (HP.out _ (by assumption)) | exact HF.out _ (Below.drew (Hid.out (by assumption))) | exact HF.out _ (Hid.out (by assumption))) (fun hHeld => ?_)
        refine wpAnyH_take (i := 0) (oi := ⟨_, _, _, _, _, _⟩) (v := ?_) rfl (by kernel_rfl) (by kernel_rfl) (by kernel_rfl) (fun _ _ _ h => h) (Or.inl ⟨by rfl, ?_⟩) (by assumption) ?_
        rotate_left
        · intro w hSw; (try dsimp only at hSw); first | (go_simp; done) | (go_simp; with_reducible rfl)
        try simp only [Act.put, List.setIfInBounds_toArray, List.set_cons_zero, List.set_cons_succ]
        refine wpAnyH_take (i := 3) (oi := ⟨_, _, _, _, _, _⟩) (v := ?_) rfl (by kernel_rfl) (by kernel_rfl) (by kernel_rfl) (fun _ _ _ h => h) (Or.inl ⟨by rfl, ?_⟩) (by assumption) ?_
        rotate_left
        · intro w hSw; (try dsimp only at hSw); first | (go_simp; done) | (go_simp; with_reducible rfl)
        try simp only [Act.put, List.setIfInBounds_toArray, List.set_cons_zero, List.set_cons_succ]
        refine wpAnyH_take (i := 4) (oi := ⟨_, _, _, _, _, _⟩) (v := ?_) rfl (by kernel_rfl) (by kernel_rfl) (by kernel_rfl) (fun _ _ _ h => h) (Or.inl ⟨by rfl, ?_⟩) (by assumption) ?_
        rotate_left
        · intro w hSw; (try dsimp only at hSw); first | (go_simp; done) | (go_simp; with_reducible rfl)
        try simp only [Act.put, List.setIfInBounds_toArray, List.set_cons_zero, List.set_cons_succ]
        refine wpAnyH_ready (rs := [1]) (by kernel_rfl) (by simp) ?_
        refine AllReadyH.cons (o := ⟨_, _, _, _, _, _⟩) rfl (fun K hK => ?_) AllReadyH.nil
        go_simp
        refine (join_any _ _ _ _ (fun k hk => Nat.lt_of_lt_of_le hk.2 (Below.size (HP.out _ (by assumption)))) (HX.out _ (HP.out _ (by assumption))) (by rw [HFL.out]; omega) hcc).mono ?_; rw [HFL.out]; rintro e wA ⟨vA, rfl, hoA, hbA⟩; have HA := Lib.hid (below_tr (HP.out _ (by assumption)) hbA); have hcA := HST.out wA _ _ _ (own_c hoA); obtain ⟨aA, cA, rfl⟩ := own_slice hoA; clear hoA hbA
        try go_wp2_with fail
        refine hK.out _ _ (by first | exact HF.out _ (HP.out _ (by assumption)) | exact HF.out _ (Below.drew (Hid.out (by assumption))) | exact HF.out _ (Hid.out (by assumption))) (fun hHeld => ?_)
        clear hK K
        try simp only [Act.put, List.setIfInBounds_toArray, List.set_cons_zero, List.set_cons_succ]
        refine wpAnyH_ready (rs := [2]) (by kernel_rfl) (by simp) ?_
        refine AllReadyH.cons (o := ⟨_, _, _, _, _, _⟩) rfl (fun K hK => ?_) AllReadyH.nil
        go_simp
        try go_wp2_with fail
        refine hK.out _ _ (by first | exact HF.out _ (HP.out _ (by assumption)) | exact HF.out _ (Below.drew (Hid.out (by assumption))) | exact HF.out _ (Hid.out (by assumption))) (fun hHeld => ?_)
        clear hK K
        try simp only [Act.put, List.setIfInBounds_toArray, List.set_cons_zero, List.set_cons_succ]
        refine wpAnyH_take (i := 5) (oi := ⟨_, _, _, _, _, _⟩) (v := ?_) rfl (by kernel_rfl) (by kernel_rfl) (by kernel_rfl) (fun _ _ _ h => h) (Or.inl ⟨by rfl, ?_⟩) (by assumption) ?_
        rotate_left
        · intro w hSw; (try dsimp only at hSw); first | (go_simp; done) | (go_simp; with_reducible rfl)
        try simp only [Act.put, List.setIfInBounds_toArray, List.set_cons_zero, List.set_cons_succ]
        refine wpAnyH_take (i := 6) (oi := ⟨_, _, _, _, _, _⟩) (v := ?_) rfl (by kernel_rfl) (by kernel_rfl) (by kernel_rfl) (fun _ _ _ h => h) (Or.inl ⟨by rfl, ?_⟩) (by assumption) ?_
        rotate_left
        · intro w hSw; (try dsimp only at hSw); first | (go_simp; done) | (go_simp; with_reducible rfl)
        try simp only [Act.put, List.setIfInBounds_toArray, List.set_cons_zero, List.set_cons_succ]
        refine wpAnyH_take (i := 7) (oi := ⟨_, _, _, _, _, _⟩) (v := ?_) rfl (by kernel_rfl) (by kernel_rfl) (by kernel_rfl) (fun _ _ _ h => h) (Or.inl ⟨by rfl, ?_⟩) (by assumption) ?_
        rotate_left
        · intro w hSw; (try dsimp only at hSw); first | (go_simp; done) | (go_simp; with_reducible rfl)
        try simp only [Act.put, List.setIfInBounds_toArray, List.set_cons_zero, List.set_cons_succ]
        refine wpAnyH_take (i := 8) (oi := ⟨_, _, _, _, _, _⟩) (v := ?_) rfl (by kernel_rfl) (by kernel_rfl) (by kernel_rfl) (fun _ _ _ h => h) (Or.inl ⟨by rfl, ?_⟩) (by assumption) ?_
        rotate_left
        · intro w hSw; (try dsimp only at hSw); first | (go_simp; done) | (go_simp; with_reducible rfl)
        try simp only [Act.put, List.setIfInBounds_toArray, List.set_cons_zero, List.set_cons_succ]
        refine wpAnyH_take (i := 9) (oi := ⟨_, _, _, _, _, _⟩) (v := ?_) rfl (by kernel_rfl) (by kernel_rfl) (by kernel_rfl) (fun _ _ _ h => h) (Or.inl ⟨by rfl, ?_⟩) (by assumption) ?_
        rotate_left
        · intro w hSw; (try dsimp only at hSw); first | (go_simp; done) | (go_simp; with_reducible rfl)
        try simp only [Act.put, List.setIfInBounds_toArray, List.set_cons_zero, List.set_cons_succ]
        refine wpAnyH_take (i := 10) (oi := ⟨_, _, _, _, _, _⟩) (v := ?_) rfl (by kernel_rfl) (by kernel_rfl) (by kernel_rfl) (fun _ _ _ h => h) (Or.inl ⟨by rfl, ?_⟩) (by assumption) ?_
        rotate_left
        · intro w hSw; (try dsimp only at hSw); first | (go_simp; done) | (go_simp; with_reducible rfl)
        try simp only [Act.put, List.setIfInBounds_toArray, List.set_cons_zero, List.set_cons_succ]
        first
          | (refine wpAnyH_take (i := 11) (oi := ⟨_, _, _, _, _, _⟩) (v := ?_) rfl (by kernel_rfl) (by kernel_rfl) (by kernel_rfl) (fun _ _ _ h => h) (Or.inl ⟨by rfl, ?_⟩) (by assumption) ?_
             rotate_left
             · intro w hSw; (try dsimp only at hSw); first | (go_simp; done) | (go_simp; with_reducible rfl))
          | refine wpAnyH_take (i := 11) (oi := ⟨_, _, _, _, _, _⟩) (v := undef) rfl (by kernel_rfl) (by kernel_rfl) (by kernel_rfl) (fun _ _ _ h => h) (Or.inr ⟨by rfl, rfl⟩) (by assumption) ?_
        try simp only [Act.put, List.setIfInBounds_toArray, List.set_cons_zero, List.set_cons_succ]
        first
          | (refine wpAnyH_take (i := 12) (oi := ⟨_, _, _, _, _, _⟩) (v := ?_) rfl (by kernel_rfl) (by kernel_rfl) (by kernel_rfl) (fun _ _ _ h => h) (Or.inl ⟨by rfl, ?_⟩) (by assumption) ?_
             rotate_left
             · intro w hSw; (try dsimp only at hSw); first | (go_simp; done) | (go_simp; with_reducible rfl))
          | refine wpAnyH_take (i := 12) (oi := ⟨_, _, _, _, _, _⟩) (v := undef) rfl (by kernel_rfl) (by kernel_rfl) (by kernel_rfl) (fun _ _ _ h => h) (Or.inr ⟨by rfl, rfl⟩) (by assumption) ?_
        try simp only [Act.put, List.setIfInBounds_toArray, List.set_cons_zero, List.set_cons_succ]
        first
          | (refine wpAnyH_take (i := 13) (oi := ⟨_, _, _, _, _, _⟩) (v := ?_) rfl (by kernel_rfl) (by kernel_rfl) (by kernel_rfl) (fun _ _ _ h => h) (Or.inl ⟨by rfl, ?_⟩) (by assumption) ?_
             rotate_left
             · intro w hSw; (try dsimp only at hSw); first | (go_simp; done) | (go_simp; with_reducible rfl))
          | refine wpAnyH_take (i := 13) (oi := ⟨_, _, _, _, _, _⟩) (v := undef) rfl (by kernel_rfl) (by kernel_rfl) (by kernel_rfl) (fun _ _ _ h => h) (Or.inr ⟨by rfl, rfl⟩) (by assumption) ?_
        try simp only [Act.put, List.setIfInBounds_toArray, List.set_cons_zero, List.set_cons_succ]
        refine wpAnyH_take (i := 14) (oi := ⟨_, _, _, _, _, _⟩) (v := ?_) rfl (by kernel_rfl) (by kernel_rfl) (by kernel_rfl) (fun _ _ _ h => h) (Or.inl ⟨by rfl, ?_⟩) (by assumption) ?_
        rotate_left
        · intro w hSw; (try dsimp only at hSw); first | (go_simp; done) | (go_simp; with_reducible rfl)
        try simp only [Act.put, List.setIfInBounds_toArray, List.set_cons_zero, List.set_cons_succ]
        refine wpAnyH_take (i := 15) (oi := ⟨_, _, _, _, _, _⟩) (v := ?_) rfl (by kernel_rfl) (by kernel_rfl) (by kernel_rfl) (fun _ _ _ h => h) (Or.inl ⟨by rfl, ?_⟩) (by assumption) ?_
        rotate_left
        · intro w hSw; (try dsimp only at hSw); first | (go_simp; done) | (go_simp; with_reducible rfl)
        try simp only [Act.put, List.setIfInBounds_toArray, List.set_cons_zero, List.set_cons_succ]
        refine wpAnyH_take (i := 16) (oi := ⟨_, _, _, _, _, _⟩) (v := ?_) rfl (by kernel_rfl) (by kernel_rfl) (by kernel_rfl) (fun _ _ _ h => h) (Or.inl ⟨by rfl, ?_⟩) (by assumption) ?_
        rotate_left
        · intro w hSw; (try dsimp only at hSw); first | (go_simp; done) | (go_simp; with_reducible rfl)
        try simp only [Act.put, List.setIfInBounds_toArray, List.set_cons_zero, List.set_cons_succ]
        refine wpAnyH_done (by kernel_rfl) ?_ _
        go_wp2_with fail
        go_ret
        exact ⟨rfl, HB3.out.trans (HA.out.mono HB3.out.size)⟩
end Go.Proofs.Ytgfnlplgkgoinaa
