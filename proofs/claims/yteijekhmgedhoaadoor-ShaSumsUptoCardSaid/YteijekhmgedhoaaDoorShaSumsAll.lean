/- The walk of the law ShaSums. -/
import Derived.Test.YteijekhmgedhoaaDoorShaKeepsAll
import Derived.Test.YteijekhmgedhoaaDoorShaG
namespace Go.Proofs.YteijekhmgedhoaaDoor
open Go.RowKit
attribute [local simp high] id_size id_zero

/-- The first c bytes, as the walk cuts them. -/
theorem head_run {S : Nat → Prop} {w : World} {aa : Addr} {q : List UInt8} {n qc c : Nat} (hq : q.length = n) (h : BytesC S w (.slice (some aa) n qc) q) (hc : c ≤ n) (hn : n ≤ qc) :
    (∀ W, (Instr.sliceAt 22 (.slice (some aa) n qc) none (some (.int .i64 (c : Int))) none).run Tryd.prog W = .ok (.slice (some aa) c qc) W) ∧ BytesC S w (.slice (some aa) c qc) (q.take c) := by
  refine ⟨fun W => ?_, ?_⟩
  · have h1 : (c : Int) ≤ (qc : Int) := by omega
    have h2 : (0 : Int) ≤ (c : Int) := by omega
    have hcq : c ≤ qc := by omega
    first
      | (go_simp; done)
      | (rw [run_sliceAt_slice W _ _ _ _ _ und_bytes]; go_simp; done)
  · subst hq; exact cut_c h c hc
set_option maxRecDepth 100000 in
set_option maxHeartbeats 16000000 in
theorem sums_some (a : Addr) (cap : Nat) (l : List UInt8) (cut : Int) (w : World) (hl : l.length ≤ 1048576) (hc1 : -9223372036854775808 ≤ cut) (hc2 : cut ≤ 9223372036854775807) (hcap : l.length ≤ cap) (hcm : cap ≤ 9223372036854775807) (hB : BytesC (fun k => k < w.heap.size) w (.slice (some a) l.length cap) l) (hE : Env w) : Calls Tryd.prog 3 #[.slice (some a) l.length cap, .int .i64 cut] w (True' w) := by
  have HB := Lib.hid hB
  have HE := Lib.hid hE
  have HC1 := Lib.hid (And.intro hc1 hc2)
  clear hB hE
  go_enter Tryd.func3, Tryd.ntmps3
  go_wp2_with fail
  refine (awake_any _ HE.out).mono ?_
  rintro e w1 ⟨rfl, hb1⟩
  have HW1 := Lib.hid hb1
  have HB1 := Lib.hid (HB.out.kept (S' := fun k => k < w.heap.size) (w' := w1) (fun k hk => ⟨hk, hb1.block k hk⟩))
  clear hb1
  have hbig : l.length ≤ 2000 ∨ 2000 < l.length := by omega
  rcases hbig with hbig | hbig
  all_goals
    first
      | (have hg0 : l.length ≤ 2000 := hbig
         have hd : decide (2000 < (l.length : Int)) = false := decide_eq_false (by omega)
         clear hbig
         go_upto_region 5 with fail
         clear hd
         obtain ⟨L', hL'⟩ : ∃ L', L' = l := ⟨_, rfl⟩
         obtain ⟨n', hn'⟩ : ∃ n', n' = l.length := ⟨_, rfl⟩
         have HBL : Hid (BytesC (fun k => k < w.heap.size) w1 (.slice (some a) n' cap) L') := Lib.hid (by rw [hL', hn']; exact HB1.out)
         have HLN : Hid (L'.length = n') := Lib.hid (by rw [hL', hn'])
         have hnc : n' ≤ cap := by omega
         have hn20 : n' ≤ 2000 := by omega
         rw [← hn'])
      | (have hg0 : 2000 < l.length := hbig
         have hd : decide (2000 < (l.length : Int)) = true := decide_eq_true (by omega)
         have hc20 : (2000 : Int) ≤ (cap : Int) := by omega
         clear hbig
         go_upto_region 5 with fail
         clear hd hc20
         obtain ⟨L', hL'⟩ : ∃ L', L' = l.take 2000 := ⟨_, rfl⟩
         obtain ⟨n', hn'⟩ : ∃ n' : Nat, n' = 2000 := ⟨_, rfl⟩
         have HBL : Hid (BytesC (fun k => k < w.heap.size) w1 (.slice (some a) n' cap) L') := Lib.hid (by rw [hL', hn']; exact cut_c HB1.out 2000 (by omega))
         have HLN : Hid (L'.length = n') := Lib.hid (by rw [hL', hn', List.length_take]; omega)
         have hnc : n' ≤ cap := by omega
         have hn20 : n' ≤ 2000 := by omega
         rw [show (Value.slice (some a) 2000 cap) = .slice (some a) n' cap by rw [hn']])
  all_goals
    clear hL' hn' hg0
    have hcut : cut < 0 ∨ (n' : Int) < cut ∨ (0 ≤ cut ∧ cut ≤ n') := by omega
    rcases hcut with hcut | hcut | ⟨hcut, hcut2⟩
    all_goals
      first
        | (have hd : decide (cut < 0) = true := decide_eq_true hcut
           clear hcut
           go_upto_region 7 with fail
           clear hd
           obtain ⟨c', hc'⟩ : ∃ c' : Nat, c' = 0 := ⟨_, rfl⟩
           have hcn : c' ≤ n' := by omega
           rw [show (Value.int .i64 0) = .int .i64 (c' : Int) by rw [hc']; rfl])
        | (have hd : decide (cut < 0) = false := decide_eq_false (by omega)
           have hd2 : decide ((n' : Int) < cut) = true := decide_eq_true hcut
           clear hcut
           go_upto_region 7 with fail
           clear hd hd2
           obtain ⟨c', hc'⟩ : ∃ c' : Nat, c' = 0 := ⟨_, rfl⟩
           have hcn : c' ≤ n' := by omega
           rw [show (Value.int .i64 0) = .int .i64 (c' : Int) by rw [hc']; rfl])
        | (obtain ⟨c', rfl⟩ : ∃ c' : Nat, cut = c' := ⟨cut.toNat, by omega⟩
           have hd : decide ((c' : Int) < 0) = false := decide_eq_false (by omega)
           have hd2 : decide ((n' : Int) < (c' : Int)) = false := decide_eq_false (by omega)
           have hd3 : decide (n' < c') = false := decide_eq_false (by omega)
           have hcn : c' ≤ n' := by omega
           have hc' : True := trivial
           clear hcut hcut2
           go_upto_region 7 with fail
           clear hd hd2 hd3)
  all_goals
    clear hc'
    have HSU1 : Hid (∀ (S : Nat → Prop) v W, (∀ k, S k → k < W.heap.size) → ChunksC S W v [L'] → Env W → Calls Tryd.prog 13 #[v] W fun e w' => e = .returned (.agg (bv (sumN L')).toArray) ∧ Below W.heap.size W w') := Lib.hid (fun S v W h1 h2 h3 => by
      have h := sum_any S v [L'] W h1 h2 (by have := HLN.out; simp; omega) (by simp) h3
      rwa [show [L'].flatten = L' by simp] at h)
    have HSU3 : Hid (∀ (S : Nat → Prop) v W, (∀ k, S k → k < W.heap.size) → ChunksC S W v [L'.take c', [], L'.drop c'] → Env W → Calls Tryd.prog 13 #[v] W fun e w' => e = .returned (.agg (bv (sumN L')).toArray) ∧ Below W.heap.size W w') := Lib.hid (fun S v W h1 h2 h3 => by
      have h := sum_any S v [L'.take c', [], L'.drop c'] W h1 h2 (by have := HLN.out; simp; omega) (by simp) h3
      rwa [show [L'.take c', [], L'.drop c'].flatten = L' by simp] at h)
    have HRS := Lib.hid (fun W => rsum_any L' W (by have := HLN.out; omega))
    have HOL := Lib.hid (sumN_len L')
    have hst : (convert 22 9 (.slice (some a) n' cap)).run Tryd.prog w1 = .ok (.string ⟨L'.toArray⟩) w1 := bytes_str HBL.out
    obtain ⟨hp1, hp2⟩ := head_run HLN.out HBL.out hcn hnc
    obtain ⟨ta, tc, ht1, ht2⟩ := tail_run (show BytesC (fun k => k < w.heap.size) w1 (.slice (some a) L'.length cap) L' by rw [HLN.out]; exact HBL.out) (n := c') (by rw [HLN.out]; exact hcn)
    rw [HLN.out] at ht1
    obtain ⟨O, hO⟩ : ∃ O, O = sumN L' := ⟨_, rfl⟩
    rw [← hO] at HSU1 HSU3 HRS HOL
    have heq : ∀ W, (binOp .eql 25 (.agg (bv O).toArray) (.agg (bv O).toArray)).run Tryd.prog W = .ok (.bool true) W := fun W => by
      rw [id_eql W HOL.out HOL.out]; simp
    have HEQ := Lib.hid heq
    have HP1 := Lib.hid hp1
    have HP2 := Lib.hid hp2
    have HT1 := Lib.hid ht1
    have HT2 := Lib.hid ht2
    clear hO heq hp1 hp2 ht1 ht2
    go_wp2_with fail
    refine (HRS.out _).mono ?_
    rintro e w5 ⟨rfl, hb5⟩
    have HB5 := Lib.hid hb5
    have i2 := IDAt.new w5
    have c1 := i2.write (l := O) HOL.out
    have zl : (bv O).length = n32 := by rw [bv_len, HOL.out]; rfl
    clear hb5 hst
    go_upto_region 8 with fail
    have J2 := Lib.hid (i2.put (l := O) HOL.out)
    have HB8 := Lib.hid (below_setRow (HB5.out.alloc HB5.out.size (.cells (bv zeros).toArray 25)) (show w1.heap.size ≤ w5.heap.size from HB5.out.size) (bv O).toArray)
    clear c1 i2
    generalize (w5.alloc (.cells (bv zeros).toArray 25)).setRow w5.heap.size (bv O).toArray = w8 at *
    generalize w5.heap.size = b4 at *
    have HW8 := Lib.hid (HW1.out.trans (HB8.out.mono HW1.out.size))
    have hb4 : b4 < w8.heap.size := (Array.getElem?_eq_some_iff.1 J2.out.blk).1
    have hs18 := HB8.out.size
    have hs01 := HW1.out.size
    have HUP : Hid (∀ v x, BytesC (fun k => k < w.heap.size) w1 v x → BytesC (fun k => k < w8.heap.size) w8 v x) := Lib.hid (fun v x h => h.kept (fun k hk => ⟨by omega, HB8.out.block k (by omega)⟩))
    have HBA := Lib.hid (HUP.out _ _ HBL.out)
    have HBP := Lib.hid (HUP.out _ _ HP2.out)
    have HBT := Lib.hid (HUP.out _ _ HT2.out)
    obtain ⟨va, hva⟩ : ∃ va, va = Value.slice (some a) n' cap := ⟨_, rfl⟩
    obtain ⟨vp, hvp⟩ : ∃ vp, vp = Value.slice (some a) c' cap := ⟨_, rfl⟩
    obtain ⟨vt, hvt⟩ : ∃ vt, vt = Value.slice ta (L'.drop c').length tc := ⟨_, rfl⟩
    rw [← hva] at HBA
    rw [← hvp] at HBP
    rw [← hvt] at HBT
    have HF : Hid (∀ w', Below w8.heap.size w8 w' → (loadCellsFrom ⟨b4, 0, none⟩ 0 n32 #[]).run Tryd.prog w' = .ok (bv O).toArray w' ∧ Hid (Below w8.heap.size w8 w')) := Lib.hid (fun w' hb => ⟨(J2.out.kept (hb.block b4 hb4)).cells, Lib.hid hb⟩)
    have HP : Hid (∀ w', ((loadCellsFrom ⟨b4, 0, none⟩ 0 n32 #[]).run Tryd.prog w' = .ok (bv O).toArray w' ∧ Hid (Below w8.heap.size w8 w')) → Below w8.heap.size w8 w') := Lib.hid (fun w' h => h.2.out)
    have HRF := Lib.hid (Below.refl w8.heap.size w8)
    have heq := HEQ.out
    have hp1 := HP1.out
    have ht1 := HT1.out
    generalize (L'.drop c').length = nt at *
    subst hva hvp hvt
    refine wp_region_held_drew (S := (fun w' => (loadCellsFrom ⟨b4, 0, none⟩ 0 n32 #[]).run Tryd.prog w' = .ok (bv O).toArray w' ∧ Hid (Below w8.heap.size w8 w'))) (by kernel_rfl) (by first | exact HF.out _ (HP.out _ (by assumption)) | exact HF.out _ (Below.drew (Hid.out (by assumption))) | exact HF.out _ (Hid.out (by assumption))) (fun hHeld => ?_)
    refine wpAnyH_take (i := 0) (oi := ⟨_, _, _, _, _, _⟩) (v := ?_) rfl (by kernel_rfl) (by kernel_rfl) (by kernel_rfl) (fun _ _ _ h => h) (Or.inl ⟨by rfl, ?_⟩) (by assumption) ?_
    rotate_left
    · intro w hSw; (try dsimp only at hSw); first | (go_simp; done) | (go_simp; with_reducible rfl)
    try simp only [Act.put, List.setIfInBounds_toArray, List.set_cons_zero, List.set_cons_succ]
    refine wpAnyH_take (i := 3) (oi := ⟨_, _, _, _, _, _⟩) (v := ?_) rfl (by kernel_rfl) (by kernel_rfl) (by kernel_rfl) (fun _ _ _ h => h) (Or.inl ⟨by rfl, ?_⟩) (by assumption) ?_
    rotate_left
    · intro w hSw; (try dsimp only at hSw); first | (go_simp; done) | (go_simp; with_reducible rfl)
    try simp only [Act.put, List.setIfInBounds_toArray, List.set_cons_zero, List.set_cons_succ]
    refine wpAnyH_ready (rs := [1]) (by kernel_rfl) (by simp) ?_
    refine AllReadyH.cons (o := ⟨_, _, _, _, _, _⟩) rfl (fun K hK => ?_) AllReadyH.nil
    go_simp
    refine any_step (fun wA1 hN => ?_)
    have HA1 : Hid (Below w8.heap.size w8 wA1) := Lib.hid (by rw [hN]; exact ((Below.refl w8.heap.size w8).alloc (Nat.le_refl _) _).drew)
    have HCX : Hid (ChunksC (fun k => k < w8.heap.size + 1) wA1 (.slice (some ⟨w8.heap.size, 0, none⟩) 1 1) [L']) := Lib.hid (by
      have h := chunks_of w8 [.slice (some a) n' cap] [L'] rfl (fun j x hj => by
        match j, hj with
        | 0, hj => exact ⟨_, rfl, by cases hj; exact HBA.out⟩
        | j + 1, hj => simp at hj)
      rw [hN]
      exact h.kept (fun k hk => ⟨hk, rfl⟩))
    have HSX : Hid (wA1.heap.size = w8.heap.size + 1) := Lib.hid (by rw [hN]; simp)
    clear hN
    refine hK.out _ _ (by first | exact HF.out _ (HP.out _ (by assumption)) | exact HF.out _ (Below.drew (Hid.out (by assumption))) | exact HF.out _ (Hid.out (by assumption))) (fun hHeld => ?_)
    clear hK K
    try simp only [Act.put, List.setIfInBounds_toArray, List.set_cons_zero, List.set_cons_succ]
    refine wpAnyH_ready (rs := [2]) (by kernel_rfl) (by simp) ?_
    refine AllReadyH.cons (o := ⟨_, _, _, _, _, _⟩) rfl (fun K hK => ?_) AllReadyH.nil
    go_simp
    refine (HSU1.out _ _ _ (fun k hk => by rw [HSX.out]; exact hk) HCX.out (HE.out.on (HW8.out.trans (HA1.out.mono HW8.out.size)))).mono ?_; rintro e wA2 ⟨rfl, hba⟩; have HA2 := Lib.hid (below_tr HA1.out hba); clear hba
    try go_wp2_with fail
    refine hK.out _ _ (by first | exact HF.out _ (HP.out _ (by assumption)) | exact HF.out _ (Below.drew (Hid.out (by assumption))) | exact HF.out _ (Hid.out (by assumption))) (fun hHeld => ?_)
    clear hK K
    try simp only [Act.put, List.setIfInBounds_toArray, List.set_cons_zero, List.set_cons_succ]
    refine wpAnyH_take (i := 4) (oi := ⟨_, _, _, _, _, _⟩) (v := ?_) rfl (by kernel_rfl) (by kernel_rfl) (by kernel_rfl) (fun _ _ _ h => h) (Or.inl ⟨by rfl, ?_⟩) (by assumption) ?_
    rotate_left
    · intro w hSw; (try dsimp only at hSw); first | (go_simp; done) | (go_simp; with_reducible rfl)
    try simp only [Act.put, List.setIfInBounds_toArray, List.set_cons_zero, List.set_cons_succ]
    refine wpAnyH_take (i := 5) (oi := ⟨_, _, _, _, _, _⟩) (v := ?_) rfl (by kernel_rfl) (by kernel_rfl) (by kernel_rfl) (fun _ _ _ h => h) (Or.inl ⟨by rfl, ?_⟩) (by assumption) ?_
    rotate_left
    · intro w hSw; (try dsimp only at hSw); first | (go_simp; done) | (go_simp; with_reducible rfl)
    try simp only [Act.put, List.setIfInBounds_toArray, List.set_cons_zero, List.set_cons_succ]
    refine wpAnyH_take (i := 6) (oi := ⟨_, _, _, _, _, _⟩) (v := ?_) rfl (by kernel_rfl) (by kernel_rfl) (by kernel_rfl) (fun _ _ _ h => h) (Or.inl ⟨by rfl, ?_⟩) (by assumption) ?_
    rotate_left
    · intro w hSw; (try dsimp only at hSw); first | (go_simp; done) | (go_simp; with_reducible rfl)
    try simp only [Act.put, List.setIfInBounds_toArray, List.set_cons_zero, List.set_cons_succ]
    refine wpAnyH_take (i := 7) (oi := ⟨_, _, _, _, _, _⟩) (v := ?_) rfl (by kernel_rfl) (by kernel_rfl) (by kernel_rfl) (fun _ _ _ h => h) (Or.inl ⟨by rfl, ?_⟩) (by assumption) ?_
    rotate_left
    · intro w hSw; (try dsimp only at hSw); first | (go_simp; done) | (go_simp; with_reducible rfl)
    try simp only [Act.put, List.setIfInBounds_toArray, List.set_cons_zero, List.set_cons_succ]
    refine wpAnyH_take (i := 8) (oi := ⟨_, _, _, _, _, _⟩) (v := ?_) rfl (by kernel_rfl) (by kernel_rfl) (by kernel_rfl) (fun _ _ _ h => h) (Or.inl ⟨by rfl, ?_⟩) (by assumption) ?_
    rotate_left
    · intro w hSw; (try dsimp only at hSw); first | (go_simp; done) | (go_simp; with_reducible rfl)
    try simp only [Act.put, List.setIfInBounds_toArray, List.set_cons_zero, List.set_cons_succ]
    refine wpAnyH_take (i := 9) (oi := ⟨_, _, _, _, _, _⟩) (v := ?_) rfl (by kernel_rfl) (by kernel_rfl) (by kernel_rfl) (fun _ _ _ h => h) (Or.inl ⟨by rfl, ?_⟩) (by assumption) ?_
    rotate_left
    · intro w hSw; (try dsimp only at hSw); first | (go_simp; done) | (go_simp; with_reducible rfl)
    try simp only [Act.put, List.setIfInBounds_toArray, List.set_cons_zero, List.set_cons_succ]
    refine wpAnyH_take (i := 10) (oi := ⟨_, _, _, _, _, _⟩) (v := ?_) rfl (by kernel_rfl) (by kernel_rfl) (by kernel_rfl) (fun _ _ _ h => h) (Or.inl ⟨by rfl, ?_⟩) (by assumption) ?_
    rotate_left
    · intro w hSw; (try dsimp only at hSw); first | (go_simp; done) | (go_simp; with_reducible rfl)
    try simp only [Act.put, List.setIfInBounds_toArray, List.set_cons_zero, List.set_cons_succ]
    refine wpAnyH_take (i := 11) (oi := ⟨_, _, _, _, _, _⟩) (v := ?_) rfl (by kernel_rfl) (by kernel_rfl) (by kernel_rfl) (fun _ _ _ h => h) (Or.inl ⟨by rfl, ?_⟩) (by assumption) ?_
    rotate_left
    · intro w hSw; (try dsimp only at hSw); first | (go_simp; done) | (go_simp; with_reducible rfl)
    try simp only [Act.put, List.setIfInBounds_toArray, List.set_cons_zero, List.set_cons_succ]
    refine wpAnyH_take (i := 14) (oi := ⟨_, _, _, _, _, _⟩) (v := ?_) rfl (by kernel_rfl) (by kernel_rfl) (by kernel_rfl) (fun _ _ _ h => h) (Or.inl ⟨by rfl, ?_⟩) (by assumption) ?_
    rotate_left
    · intro w hSw; (try dsimp only at hSw); first | (go_simp; done) | (go_simp; with_reducible rfl)
    try simp only [Act.put, List.setIfInBounds_toArray, List.set_cons_zero, List.set_cons_succ]
    refine wpAnyH_ready (rs := [12]) (by kernel_rfl) (by simp) ?_
    refine AllReadyH.cons (o := ⟨_, _, _, _, _, _⟩) rfl (fun K hK => ?_) AllReadyH.nil
    go_simp
    refine any_step (fun wA3 hN => ?_)
    have HA3 : Hid (Below w8.heap.size w8 wA3) := Lib.hid (by rw [hN]; exact HA2.out.alloc HA2.out.size _)
    have HCY : Hid (ChunksC (fun k => k < wA2.heap.size + 1) wA3 (.slice (some ⟨wA2.heap.size, 0, none⟩) 3 3) [L'.take c', [], L'.drop c']) := Lib.hid (by
      have hkp : ∀ v x, BytesC (fun k => k < w8.heap.size) w8 v x → BytesC (fun k => k < wA2.heap.size) wA2 v x := fun v x h => h.kept (fun k hk => ⟨Nat.lt_of_lt_of_le hk HA2.out.size, HA2.out.block k hk⟩)
      have h := chunks_of wA2 [.slice (some a) c' cap, .slice none 0 0, .slice ta nt tc] [L'.take c', [], L'.drop c'] rfl (fun j x hj => by
        match j, hj with
        | 0, hj => exact ⟨_, rfl, by cases hj; exact hkp _ _ HBP.out⟩
        | 1, hj => exact ⟨_, rfl, by cases hj; exact Or.inl ⟨rfl, rfl⟩⟩
        | 2, hj => exact ⟨_, rfl, by cases hj; exact hkp _ _ HBT.out⟩
        | j + 3, hj => simp at hj)
      rw [hN]
      exact h)
    have HSY : Hid (wA3.heap.size = wA2.heap.size + 1) := Lib.hid (by rw [hN]; simp)
    clear hN
    refine hK.out _ _ (by first | exact HF.out _ (HP.out _ (by assumption)) | exact HF.out _ (Below.drew (Hid.out (by assumption))) | exact HF.out _ (Hid.out (by assumption))) (fun hHeld => ?_)
    clear hK K
    try simp only [Act.put, List.setIfInBounds_toArray, List.set_cons_zero, List.set_cons_succ]
    refine wpAnyH_ready (rs := [13]) (by kernel_rfl) (by simp) ?_
    refine AllReadyH.cons (o := ⟨_, _, _, _, _, _⟩) rfl (fun K hK => ?_) AllReadyH.nil
    go_simp
    refine (HSU3.out _ _ _ (fun k hk => by rw [HSY.out]; exact hk) HCY.out (HE.out.on (HW8.out.trans (HA3.out.mono HW8.out.size)))).mono ?_; rintro e wA4 ⟨rfl, hba⟩; have HA4 := Lib.hid (below_tr HA3.out hba); clear hba
    try go_wp2_with fail
    refine hK.out _ _ (by first | exact HF.out _ (HP.out _ (by assumption)) | exact HF.out _ (Below.drew (Hid.out (by assumption))) | exact HF.out _ (Hid.out (by assumption))) (fun hHeld => ?_)
    clear hK K
    try simp only [Act.put, List.setIfInBounds_toArray, List.set_cons_zero, List.set_cons_succ]
    refine wpAnyH_take (i := 15) (oi := ⟨_, _, _, _, _, _⟩) (v := ?_) rfl (by kernel_rfl) (by kernel_rfl) (by kernel_rfl) (fun _ _ _ h => h) (Or.inl ⟨by rfl, ?_⟩) (by assumption) ?_
    rotate_left
    · intro w hSw; (try dsimp only at hSw); first | (go_simp; done) | (go_simp; with_reducible rfl)
    try simp only [Act.put, List.setIfInBounds_toArray, List.set_cons_zero, List.set_cons_succ]
    refine wpAnyH_take (i := 16) (oi := ⟨_, _, _, _, _, _⟩) (v := ?_) rfl (by kernel_rfl) (by kernel_rfl) (by kernel_rfl) (fun _ _ _ h => h) (Or.inl ⟨by rfl, ?_⟩) (by assumption) ?_
    rotate_left
    · intro w hSw; (try dsimp only at hSw); first | (go_simp; done) | (go_simp; with_reducible rfl)
    try simp only [Act.put, List.setIfInBounds_toArray, List.set_cons_zero, List.set_cons_succ]
    refine wpAnyH_take (i := 17) (oi := ⟨_, _, _, _, _, _⟩) (v := ?_) rfl (by kernel_rfl) (by kernel_rfl) (by kernel_rfl) (fun _ _ _ h => h) (Or.inl ⟨by rfl, ?_⟩) (by assumption) ?_
    rotate_left
    · intro w hSw; (try dsimp only at hSw); first | (go_simp; done) | (go_simp; with_reducible rfl)
    try simp only [Act.put, List.setIfInBounds_toArray, List.set_cons_zero, List.set_cons_succ]
    refine wpAnyH_done (by kernel_rfl) ?_ _
    go_wp2_with fail
    go_ret
    exact ⟨rfl, HW8.out.trans (HA4.out.mono HW8.out.size)⟩
set_option maxRecDepth 100000 in
set_option maxHeartbeats 16000000 in
theorem sums_nil (cut : Int) (w : World) (hc1 : -9223372036854775808 ≤ cut) (hc2 : cut ≤ 9223372036854775807) (hE : Env w) : Calls Tryd.prog 3 #[.slice none 0 0, .int .i64 cut] w (True' w) := by
  have HE := Lib.hid hE
  clear hE
  go_enter Tryd.func3, Tryd.ntmps3
  go_wp2_with fail
  refine (awake_any _ HE.out).mono ?_
  rintro e w1 ⟨rfl, hb1⟩
  have HW1 := Lib.hid hb1
  clear hb1
  have hcut : cut < 0 ∨ (0 : Int) < cut ∨ cut = 0 := by omega
  rcases hcut with hcut | hcut | hcut
  all_goals
    first
      | (have hd : decide (cut < 0) = true := decide_eq_true hcut
         clear hcut
         go_upto_region 7 with fail
         clear hd)
      | (have hd : decide (cut < 0) = false := decide_eq_false (by omega)
         have hd2 : decide ((0 : Int) < cut) = true := decide_eq_true hcut
         clear hcut
         go_upto_region 7 with fail
         clear hd hd2)
      | (subst hcut
         go_upto_region 7 with fail)
  all_goals
    have HSU1 : Hid (∀ (S : Nat → Prop) v W, (∀ k, S k → k < W.heap.size) → ChunksC S W v [[]] → Env W → Calls Tryd.prog 13 #[v] W fun e w' => e = .returned (.agg (bv (sumN [])).toArray) ∧ Below W.heap.size W w') := Lib.hid (fun S v W h1 h2 h3 => sum_any S v [[]] W h1 h2 (by simp) (by simp) h3)
    have HSU3 : Hid (∀ (S : Nat → Prop) v W, (∀ k, S k → k < W.heap.size) → ChunksC S W v [[], [], []] → Env W → Calls Tryd.prog 13 #[v] W fun e w' => e = .returned (.agg (bv (sumN [])).toArray) ∧ Below W.heap.size W w') := Lib.hid (fun S v W h1 h2 h3 => sum_any S v [[], [], []] W h1 h2 (by simp) (by simp) h3)
    have HRS : Hid (∀ W, Calls Tryd.prog 12 #[.string ⟨#[]⟩] W fun e w' => e = .returned (.agg (bv (sumN [])).toArray) ∧ Below W.heap.size W w') := Lib.hid (fun W => rsum_any [] W (by simp))
    have HOL := Lib.hid (sumN_len [])
    have hst : (convert 22 9 (.slice none 0 0)).run Tryd.prog w1 = .ok (.string ⟨#[]⟩) w1 := bytes_str (S := fun _ => True) (l := []) (Or.inl ⟨rfl, rfl⟩)
    obtain ⟨O, hO⟩ : ∃ O, O = sumN [] := ⟨_, rfl⟩
    rw [← hO] at HSU1 HSU3 HRS HOL
    have heq : ∀ W, (binOp .eql 25 (.agg (bv O).toArray) (.agg (bv O).toArray)).run Tryd.prog W = .ok (.bool true) W := fun W => by
      rw [id_eql W HOL.out HOL.out]; simp
    have HEQ := Lib.hid heq
    clear hO heq
    go_wp2_with fail
    refine (HRS.out _).mono ?_
    rintro e w5 ⟨rfl, hb5⟩
    have HB5 := Lib.hid hb5
    have i2 := IDAt.new w5
    have c1 := i2.write (l := O) HOL.out
    have zl : (bv O).length = n32 := by rw [bv_len, HOL.out]; rfl
    clear hb5 hst
    go_upto_region 8 with fail
    have J2 := Lib.hid (i2.put (l := O) HOL.out)
    have HB8 := Lib.hid (below_setRow (HB5.out.alloc HB5.out.size (.cells (bv zeros).toArray 25)) (show w1.heap.size ≤ w5.heap.size from HB5.out.size) (bv O).toArray)
    clear c1 i2
    generalize (w5.alloc (.cells (bv zeros).toArray 25)).setRow w5.heap.size (bv O).toArray = w8 at *
    generalize w5.heap.size = b4 at *
    have HW8 := Lib.hid (HW1.out.trans (HB8.out.mono HW1.out.size))
    have hb4 : b4 < w8.heap.size := (Array.getElem?_eq_some_iff.1 J2.out.blk).1
    have HF : Hid (∀ w', Below w8.heap.size w8 w' → (loadCellsFrom ⟨b4, 0, none⟩ 0 n32 #[]).run Tryd.prog w' = .ok (bv O).toArray w' ∧ Hid (Below w8.heap.size w8 w')) := Lib.hid (fun w' hb => ⟨(J2.out.kept (hb.block b4 hb4)).cells, Lib.hid hb⟩)
    have HP : Hid (∀ w', ((loadCellsFrom ⟨b4, 0, none⟩ 0 n32 #[]).run Tryd.prog w' = .ok (bv O).toArray w' ∧ Hid (Below w8.heap.size w8 w')) → Below w8.heap.size w8 w') := Lib.hid (fun w' h => h.2.out)
    have HRF := Lib.hid (Below.refl w8.heap.size w8)
    have heq := HEQ.out
    refine wp_region_held_drew (S := (fun w' => (loadCellsFrom ⟨b4, 0, none⟩ 0 n32 #[]).run Tryd.prog w' = .ok (bv O).toArray w' ∧ Hid (Below w8.heap.size w8 w'))) (by kernel_rfl) (by first | exact HF.out _ (HP.out _ (by assumption)) | exact HF.out _ (Below.drew (Hid.out (by assumption))) | exact HF.out _ (Hid.out (by assumption))) (fun hHeld => ?_)
    refine wpAnyH_take (i := 0) (oi := ⟨_, _, _, _, _, _⟩) (v := ?_) rfl (by kernel_rfl) (by kernel_rfl) (by kernel_rfl) (fun _ _ _ h => h) (Or.inl ⟨by rfl, ?_⟩) (by assumption) ?_
    rotate_left
    · intro w hSw; (try dsimp only at hSw); first | (go_simp; done) | (go_simp; with_reducible rfl)
    try simp only [Act.put, List.setIfInBounds_toArray, List.set_cons_zero, List.set_cons_succ]
    refine wpAnyH_take (i := 3) (oi := ⟨_, _, _, _, _, _⟩) (v := ?_) rfl (by kernel_rfl) (by kernel_rfl) (by kernel_rfl) (fun _ _ _ h => h) (Or.inl ⟨by rfl, ?_⟩) (by assumption) ?_
    rotate_left
    · intro w hSw; (try dsimp only at hSw); first | (go_simp; done) | (go_simp; with_reducible rfl)
    try simp only [Act.put, List.setIfInBounds_toArray, List.set_cons_zero, List.set_cons_succ]
    refine wpAnyH_ready (rs := [1]) (by kernel_rfl) (by simp) ?_
    refine AllReadyH.cons (o := ⟨_, _, _, _, _, _⟩) rfl (fun K hK => ?_) AllReadyH.nil
    go_simp
    refine any_step (fun wA1 hN => ?_)
    have HA1 : Hid (Below w8.heap.size w8 wA1) := Lib.hid (by rw [hN]; exact ((Below.refl w8.heap.size w8).alloc (Nat.le_refl _) _).drew)
    have HCX : Hid (ChunksC (fun k => k < w8.heap.size + 1) wA1 (.slice (some ⟨w8.heap.size, 0, none⟩) 1 1) [[]]) := Lib.hid (by
      have h := chunks_of w8 [.slice none 0 0] [[]] rfl (fun j x hj => by
        match j, hj with
        | 0, hj => exact ⟨_, rfl, by cases hj; exact Or.inl ⟨rfl, rfl⟩⟩
        | j + 1, hj => simp at hj)
      rw [hN]
      exact h.kept (fun k hk => ⟨hk, rfl⟩))
    have HSX : Hid (wA1.heap.size = w8.heap.size + 1) := Lib.hid (by rw [hN]; simp)
    clear hN
    refine hK.out _ _ (by first | exact HF.out _ (HP.out _ (by assumption)) | exact HF.out _ (Below.drew (Hid.out (by assumption))) | exact HF.out _ (Hid.out (by assumption))) (fun hHeld => ?_)
    clear hK K
    try simp only [Act.put, List.setIfInBounds_toArray, List.set_cons_zero, List.set_cons_succ]
    refine wpAnyH_ready (rs := [2]) (by kernel_rfl) (by simp) ?_
    refine AllReadyH.cons (o := ⟨_, _, _, _, _, _⟩) rfl (fun K hK => ?_) AllReadyH.nil
    go_simp
    refine (HSU1.out _ _ _ (fun k hk => by rw [HSX.out]; exact hk) HCX.out (HE.out.on (HW8.out.trans (HA1.out.mono HW8.out.size)))).mono ?_; rintro e wA2 ⟨rfl, hba⟩; have HA2 := Lib.hid (below_tr HA1.out hba); clear hba
    try go_wp2_with fail
    refine hK.out _ _ (by first | exact HF.out _ (HP.out _ (by assumption)) | exact HF.out _ (Below.drew (Hid.out (by assumption))) | exact HF.out _ (Hid.out (by assumption))) (fun hHeld => ?_)
    clear hK K
    try simp only [Act.put, List.setIfInBounds_toArray, List.set_cons_zero, List.set_cons_succ]
    refine wpAnyH_take (i := 4) (oi := ⟨_, _, _, _, _, _⟩) (v := ?_) rfl (by kernel_rfl) (by kernel_rfl) (by kernel_rfl) (fun _ _ _ h => h) (Or.inl ⟨by rfl, ?_⟩) (by assumption) ?_
    rotate_left
    · intro w hSw; (try dsimp only at hSw); first | (go_simp; done) | (go_simp; with_reducible rfl)
    try simp only [Act.put, List.setIfInBounds_toArray, List.set_cons_zero, List.set_cons_succ]
    refine wpAnyH_take (i := 5) (oi := ⟨_, _, _, _, _, _⟩) (v := ?_) rfl (by kernel_rfl) (by kernel_rfl) (by kernel_rfl) (fun _ _ _ h => h) (Or.inl ⟨by rfl, ?_⟩) (by assumption) ?_
    rotate_left
    · intro w hSw; (try dsimp only at hSw); first | (go_simp; done) | (go_simp; with_reducible rfl)
    try simp only [Act.put, List.setIfInBounds_toArray, List.set_cons_zero, List.set_cons_succ]
    refine wpAnyH_take (i := 6) (oi := ⟨_, _, _, _, _, _⟩) (v := ?_) rfl (by kernel_rfl) (by kernel_rfl) (by kernel_rfl) (fun _ _ _ h => h) (Or.inl ⟨by rfl, ?_⟩) (by assumption) ?_
    rotate_left
    · intro w hSw; (try dsimp only at hSw); first | (go_simp; done) | (go_simp; with_reducible rfl)
    try simp only [Act.put, List.setIfInBounds_toArray, List.set_cons_zero, List.set_cons_succ]
    refine wpAnyH_take (i := 7) (oi := ⟨_, _, _, _, _, _⟩) (v := ?_) rfl (by kernel_rfl) (by kernel_rfl) (by kernel_rfl) (fun _ _ _ h => h) (Or.inl ⟨by rfl, ?_⟩) (by assumption) ?_
    rotate_left
    · intro w hSw; (try dsimp only at hSw); first | (go_simp; done) | (go_simp; with_reducible rfl)
    try simp only [Act.put, List.setIfInBounds_toArray, List.set_cons_zero, List.set_cons_succ]
    refine wpAnyH_take (i := 8) (oi := ⟨_, _, _, _, _, _⟩) (v := ?_) rfl (by kernel_rfl) (by kernel_rfl) (by kernel_rfl) (fun _ _ _ h => h) (Or.inl ⟨by rfl, ?_⟩) (by assumption) ?_
    rotate_left
    · intro w hSw; (try dsimp only at hSw); first | (go_simp; done) | (go_simp; with_reducible rfl)
    try simp only [Act.put, List.setIfInBounds_toArray, List.set_cons_zero, List.set_cons_succ]
    refine wpAnyH_take (i := 9) (oi := ⟨_, _, _, _, _, _⟩) (v := ?_) rfl (by kernel_rfl) (by kernel_rfl) (by kernel_rfl) (fun _ _ _ h => h) (Or.inl ⟨by rfl, ?_⟩) (by assumption) ?_
    rotate_left
    · intro w hSw; (try dsimp only at hSw); first | (go_simp; done) | (go_simp; with_reducible rfl)
    try simp only [Act.put, List.setIfInBounds_toArray, List.set_cons_zero, List.set_cons_succ]
    refine wpAnyH_take (i := 10) (oi := ⟨_, _, _, _, _, _⟩) (v := ?_) rfl (by kernel_rfl) (by kernel_rfl) (by kernel_rfl) (fun _ _ _ h => h) (Or.inl ⟨by rfl, ?_⟩) (by assumption) ?_
    rotate_left
    · intro w hSw; (try dsimp only at hSw); first | (go_simp; done) | (go_simp; with_reducible rfl)
    try simp only [Act.put, List.setIfInBounds_toArray, List.set_cons_zero, List.set_cons_succ]
    refine wpAnyH_take (i := 11) (oi := ⟨_, _, _, _, _, _⟩) (v := ?_) rfl (by kernel_rfl) (by kernel_rfl) (by kernel_rfl) (fun _ _ _ h => h) (Or.inl ⟨by rfl, ?_⟩) (by assumption) ?_
    rotate_left
    · intro w hSw; (try dsimp only at hSw); first | (go_simp; done) | (go_simp; with_reducible rfl)
    try simp only [Act.put, List.setIfInBounds_toArray, List.set_cons_zero, List.set_cons_succ]
    refine wpAnyH_take (i := 14) (oi := ⟨_, _, _, _, _, _⟩) (v := ?_) rfl (by kernel_rfl) (by kernel_rfl) (by kernel_rfl) (fun _ _ _ h => h) (Or.inl ⟨by rfl, ?_⟩) (by assumption) ?_
    rotate_left
    · intro w hSw; (try dsimp only at hSw); first | (go_simp; done) | (go_simp; with_reducible rfl)
    try simp only [Act.put, List.setIfInBounds_toArray, List.set_cons_zero, List.set_cons_succ]
    refine wpAnyH_ready (rs := [12]) (by kernel_rfl) (by simp) ?_
    refine AllReadyH.cons (o := ⟨_, _, _, _, _, _⟩) rfl (fun K hK => ?_) AllReadyH.nil
    go_simp
    refine any_step (fun wA3 hN => ?_)
    have HA3 : Hid (Below w8.heap.size w8 wA3) := Lib.hid (by rw [hN]; exact HA2.out.alloc HA2.out.size _)
    have HCY : Hid (ChunksC (fun k => k < wA2.heap.size + 1) wA3 (.slice (some ⟨wA2.heap.size, 0, none⟩) 3 3) [[], [], []]) := Lib.hid (by
      have h := chunks_of wA2 [.slice none 0 0, .slice none 0 0, .slice none 0 0] [[], [], []] rfl (fun j x hj => by
        match j, hj with
        | 0, hj => exact ⟨_, rfl, by cases hj; exact Or.inl ⟨rfl, rfl⟩⟩
        | 1, hj => exact ⟨_, rfl, by cases hj; exact Or.inl ⟨rfl, rfl⟩⟩
        | 2, hj => exact ⟨_, rfl, by cases hj; exact Or.inl ⟨rfl, rfl⟩⟩
        | j + 3, hj => simp at hj)
      rw [hN]
      exact h)
    have HSY : Hid (wA3.heap.size = wA2.heap.size + 1) := Lib.hid (by rw [hN]; simp)
    clear hN
    refine hK.out _ _ (by first | exact HF.out _ (HP.out _ (by assumption)) | exact HF.out _ (Below.drew (Hid.out (by assumption))) | exact HF.out _ (Hid.out (by assumption))) (fun hHeld => ?_)
    clear hK K
    try simp only [Act.put, List.setIfInBounds_toArray, List.set_cons_zero, List.set_cons_succ]
    refine wpAnyH_ready (rs := [13]) (by kernel_rfl) (by simp) ?_
    refine AllReadyH.cons (o := ⟨_, _, _, _, _, _⟩) rfl (fun K hK => ?_) AllReadyH.nil
    go_simp
    refine (HSU3.out _ _ _ (fun k hk => by rw [HSY.out]; exact hk) HCY.out (HE.out.on (HW8.out.trans (HA3.out.mono HW8.out.size)))).mono ?_; rintro e wA4 ⟨rfl, hba⟩; have HA4 := Lib.hid (below_tr HA3.out hba); clear hba
    try go_wp2_with fail
    refine hK.out _ _ (by first | exact HF.out _ (HP.out _ (by assumption)) | exact HF.out _ (Below.drew (Hid.out (by assumption))) | exact HF.out _ (Hid.out (by assumption))) (fun hHeld => ?_)
    clear hK K
    try simp only [Act.put, List.setIfInBounds_toArray, List.set_cons_zero, List.set_cons_succ]
    refine wpAnyH_take (i := 15) (oi := ⟨_, _, _, _, _, _⟩) (v := ?_) rfl (by kernel_rfl) (by kernel_rfl) (by kernel_rfl) (fun _ _ _ h => h) (Or.inl ⟨by rfl, ?_⟩) (by assumption) ?_
    rotate_left
    · intro w hSw; (try dsimp only at hSw); first | (go_simp; done) | (go_simp; with_reducible rfl)
    try simp only [Act.put, List.setIfInBounds_toArray, List.set_cons_zero, List.set_cons_succ]
    refine wpAnyH_take (i := 16) (oi := ⟨_, _, _, _, _, _⟩) (v := ?_) rfl (by kernel_rfl) (by kernel_rfl) (by kernel_rfl) (fun _ _ _ h => h) (Or.inl ⟨by rfl, ?_⟩) (by assumption) ?_
    rotate_left
    · intro w hSw; (try dsimp only at hSw); first | (go_simp; done) | (go_simp; with_reducible rfl)
    try simp only [Act.put, List.setIfInBounds_toArray, List.set_cons_zero, List.set_cons_succ]
    refine wpAnyH_take (i := 17) (oi := ⟨_, _, _, _, _, _⟩) (v := ?_) rfl (by kernel_rfl) (by kernel_rfl) (by kernel_rfl) (fun _ _ _ h => h) (Or.inl ⟨by rfl, ?_⟩) (by assumption) ?_
    rotate_left
    · intro w hSw; (try dsimp only at hSw); first | (go_simp; done) | (go_simp; with_reducible rfl)
    try simp only [Act.put, List.setIfInBounds_toArray, List.set_cons_zero, List.set_cons_succ]
    refine wpAnyH_done (by kernel_rfl) ?_ _
    go_wp2_with fail
    go_ret
    exact ⟨rfl, HW8.out.trans (HA4.out.mono HW8.out.size)⟩
theorem sums_law (v : Value) (l : List UInt8) (cut : Int) (w : World) (hl : l.length ≤ 1048576) (hc : -9223372036854775808 ≤ cut ∧ cut ≤ 9223372036854775807) (hB : BytesC (fun k => k < w.heap.size) w v l) (hE : Env w) : Calls Tryd.prog 3 #[v, .int .i64 cut] w (True' w) := by
  rcases hB with ⟨rfl, _⟩ | ⟨a, cap, rfl, h1, h2, h3, h4⟩
  · exact sums_nil cut w hc.1 hc.2 hE
  · exact sums_some a cap l cut w hl hc.1 hc.2 h1 (by unfold maxLen at h2; omega) (Or.inr ⟨a, cap, rfl, h1, h2, h3, h4⟩) hE
end Go.Proofs.YteijekhmgedhoaaDoor
