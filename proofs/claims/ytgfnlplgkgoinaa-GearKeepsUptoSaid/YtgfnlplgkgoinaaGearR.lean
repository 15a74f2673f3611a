/- The walk of the laws' own whole. -/
import Derived.Test.YtgfnlplgkgoinaaGearP
import Derived.Test.YtgfnlplgkgoinaaStep
import Derived.Deep.Cut
namespace Go.Proofs.Ytgfnlplgkgoinaa
open Go.RowKit
attribute [local go_sem ↓] Go.wp_at_zero Go.wp_at_succ

def d8 : List UInt8 := [0, 1, 2, 3, 4, 5, 6, 7]
def wholeB (least most bits : Nat) (l : List UInt8) (ls : List Nat) : Bool := decide (ls = []) || (decide (ls.length < (cutL least most bits (l ++ d8)).length) && decide ((cutL least most bits (l ++ d8)).take ls.length = ls))
theorem any_step {K : Act → World → Prop} {a : Act} {w : World} (h : ∀ w1, w1 = w → K a w1) : K a w := h _ rfl
theorem below_dr (w : World) : Below w.heap.size w w.drew := (Below.refl _ w).drew
theorem lit8_c (w : World) : BytesC (fun k => w.heap.size ≤ k ∧ k < w.heap.size + 1) (w.alloc (.cells #[.int .u8 0, .int .u8 1, .int .u8 2, .int .u8 3, .int .u8 4, .int .u8 5, .int .u8 6, .int .u8 7] 5)) (.slice (some ⟨w.heap.size, 0, none⟩) 8 8) d8 := by
  refine Or.inr ⟨⟨w.heap.size, 0, none⟩, 8, rfl, Nat.le_refl _, by unfold maxLen; omega, Or.inr ⟨Nat.le_refl _, Nat.lt_succ_self _⟩, fun j u hj => ?_⟩
  have e : (⟨w.heap.size, 0, none⟩ : Addr).add j = ⟨w.heap.size, j, none⟩ := by simp [Addr.add]; omega
  rw [e]
  unfold World.cell?
  rw [new_five]
  match j, hj with
  | 0, hj => exact hj
  | 1, hj => exact hj
  | 2, hj => exact hj
  | 3, hj => exact hj
  | 4, hj => exact hj
  | 5, hj => exact hj
  | 6, hj => exact hj
  | 7, hj => exact hj
  | j + 8, hj => simp [bv, d8] at hj
theorem iv_take (l : List Nat) (n : Nat) : iv (l.take n) = (iv l).take n := by unfold iv; rw [List.map_take]
theorem cut_i {S : Nat → Prop} {w : World} {a : Addr} {l : List Nat} {cap : Nat} (h : IntsC S w (.slice (some a) l.length cap) l) (j : Nat) (hj : j ≤ l.length) : IntsC S w (.slice (some a) j cap) (l.take j) := by
  rcases h with ⟨h, _⟩ | ⟨a', cap', h1, h2, h3, h4, h5⟩
  · cases h
  · injection h1 with h1 _ h1'
    injection h1 with h1
    subst h1 h1'
    have e : (l.take j).length = j := by rw [List.length_take]; omega
    refine Or.inr ⟨a, cap, by rw [e], by omega, h3, h4.imp_left (fun h => by rw [h]; simp), fun i u hi => ?_⟩
    rw [iv_take, List.getElem?_take] at hi
    split at hi
    · exact h5 i u hi
    · cases hi
set_option maxRecDepth 100000 in
set_option maxHeartbeats 16000000 in
theorem whole_any (S T : Nat → Prop) (v : Value) (l : List UInt8) (vl : Value) (ls : List Nat) (least most bits : Nat) (w : World) (hl : l.length ≤ 4194200) (hll : ls.length ≤ 4194304) (hS : ∀ k, S k → k < w.heap.size) (hT : ∀ k, T k → k < w.heap.size) (hB : BytesC S w v l) (hI : IntsC T w vl ls) (hg : wrongN least most bits = false) :
    Calls Try.prog 19 #[v, vl, par least most bits] w fun e w' => e = .returned (.bool (wholeB least most bits l ls)) ∧ Below w.heap.size w w' := by
  obtain ⟨i0, hi, hz0, hz1, hz2⟩ := info_parts Try.info5
  have hg := Lib.hid hg
  have HB := Lib.hid hB
  have HI := Lib.hid hI
  have HS := Lib.hid hS
  have HT := Lib.hid hT
  obtain ⟨ao, ca, rfl⟩ := hB.shape
  obtain ⟨la, lc, rfl⟩ := hI.shape
  have HW0 : Hid (Below w.heap.size w (w.alloc (.cells #[.int .i64 least, .int .i64 most, .int .i64 bits] 24))) := Lib.hid ((Below.refl _ _).alloc (Nat.le_refl _) _)
  have HN0 := Lib.hid (new_five w #[.int .i64 least, .int .i64 most, .int .i64 bits] 24)
  clear hB hI hS hT
  by_cases hl0 : ls = []
  · have HE : Hid (wholeB least most bits l ls = true) := Lib.hid (by unfold wholeB; rw [decide_eq_true hl0]; rfl)
    have g0 : ((ls.length : Int) == 0) = true := by rw [hl0]; rfl
    clear hl0
    go_enter Try.func19, Try.ntmps19
    go_wp2_with fail
    go_ret
    exact ⟨by rw [HE.out]; rfl, HW0.out⟩
  have hlp : 0 < ls.length := List.length_pos_iff.2 hl0
  have HNE := Lib.hid (decide_eq_false hl0)
  have g0 : ((ls.length : Int) == 0) = false := by rw [beq_eq_false_iff_ne]; omega
  clear hl0
  go_enter Try.func19, Try.ntmps19
  go_upto_region 3 with fail
  obtain ⟨b0, hb0⟩ : ∃ b0, b0 = w.heap.size := ⟨_, rfl⟩
  have hb0' : b0 < (w.alloc (.cells #[.int .i64 least, .int .i64 most, .int .i64 bits] 24)).heap.size := by rw [hb0]; simp
  have HBW := HW0
  rw [← hb0] at HN0 ⊢
  have HB0E := Lib.hid hb0
  clear hb0
  generalize w.alloc (.cells #[.int .i64 least, .int .i64 most, .int .i64 bits] 24) = w0 at *
  have hb0 := hb0'
  have HF : Hid (∀ w', Below w0.heap.size w0 w' → w'.cell? ⟨b0, 0, none⟩ = some (.int .i64 least) ∧ w'.cell? ⟨b0, 1, none⟩ = some (.int .i64 most) ∧ w'.cell? ⟨b0, 2, none⟩ = some (.int .i64 bits) ∧ Hid (Below w0.heap.size w0 w')) := Lib.hid (fun w' hb => by
    obtain ⟨e0, e1, e2⟩ := three_cells ((hb.block b0 hb0').trans HN0.out)
    exact ⟨e0, e1, e2, Lib.hid hb⟩)
  have HBY : Hid (∀ w', Below w0.heap.size w0 w' → BytesC S w' (.slice ao l.length ca) l) := Lib.hid (fun w' hb => HB.out.kept (fun k hk => ⟨hk, (hb.block k (Nat.lt_of_lt_of_le (HS.out k hk) HBW.out.size)).trans (HBW.out.block k (HS.out k hk))⟩))
  have HLS : Hid (∀ w', Below w0.heap.size w0 w' → IntsC T w' (.slice la ls.length lc) ls) := Lib.hid (fun w' hb => HI.out.kept (fun k hk => ⟨hk, (hb.block k (Nat.lt_of_lt_of_le (HT.out k hk) HBW.out.size)).trans (HBW.out.block k (HT.out k hk))⟩))
  clear HN0 HW0
  refine wp_region_held_drew (S := (fun w' => w'.cell? ⟨b0, 0, none⟩ = some (.int .i64 least) ∧ w'.cell? ⟨b0, 1, none⟩ = some (.int .i64 most) ∧ w'.cell? ⟨b0, 2, none⟩ = some (.int .i64 bits) ∧ Hid (Below w0.heap.size w0 w'))) (by kernel_rfl) (by exact HF.out _ (below_dr w0)) (fun hHeld => ?_)
  have HBwd : Hid (Below w0.heap.size w0 w0.drew) := Lib.hid (below_dr w0)
  generalize w0.drew = wd at *
  refine wpAnyH_take (i := 1) (oi := ⟨_, _, _, _, _, _⟩) (v := ?_) rfl (by kernel_rfl) (by kernel_rfl) (by kernel_rfl) (fun _ _ _ h => h) (Or.inl ⟨by rfl, ?_⟩) (by assumption) ?_
  rotate_left
  · intro w hSw; (try dsimp only at hSw); first | (go_simp; done) | (go_simp; with_reducible rfl)
  try simp only [Act.put, List.setIfInBounds_toArray, List.set_cons_zero, List.set_cons_succ]
  refine wpAnyH_take (i := 5) (oi := ⟨_, _, _, _, _, _⟩) (v := ?_) rfl (by kernel_rfl) (by kernel_rfl) (by kernel_rfl) (fun _ _ _ h => h) (Or.inl ⟨by rfl, ?_⟩) (by assumption) ?_
  rotate_left
  · intro w hSw; (try dsimp only at hSw); first | (go_simp; done) | (go_simp; with_reducible rfl)
  try simp only [Act.put, List.setIfInBounds_toArray, List.set_cons_zero, List.set_cons_succ]
  refine wpAnyH_ready (rs := [0, 3]) (by kernel_rfl) (by simp) ?_
  refine AllReadyH.cons (o := ⟨_, _, _, _, _, _⟩) rfl (fun K hK => ?_) (AllReadyH.cons (o := ⟨_, _, _, _, _, _⟩) rfl (fun K hK => ?_) AllReadyH.nil)
  · go_simp
    refine any_step (fun wA1 hN => ?_)
    have HZwA1 : Hid (wd.heap.size < wA1.heap.size) := Lib.hid (by rw [hN]; simp)
    have HKwA1 : Hid (∀ k, k < wd.heap.size → wA1.heap[k]? = wd.heap[k]?) := Lib.hid (fun k hk => by rw [hN]; exact Below.heap_alloc _ _ k hk)
    have HBwA1 : Hid (Below w0.heap.size w0 wA1) := Lib.hid (by rw [hN]; exact Below.alloc HBwd.out HBwd.out.size _)
    have HEwA1 : Hid (Own wA1 w0.heap.size (.slice (some ⟨wd.heap.size, 0, none⟩) 0 0) []) := Lib.hid (by rw [hN]; exact own_lower HBwd.out.size (own_empty wd))
    clear hN
    try go_wp2_with fail
    refine hK.out _ _ (by exact HF.out _ (Hid.out (by assumption))) (fun hHeld => ?_)
    clear hK K
    try simp only [Act.put, List.setIfInBounds_toArray, List.set_cons_zero, List.set_cons_succ]
    refine wpAnyH_ready (rs := [2, 3]) (by kernel_rfl) (by simp) ?_
    refine AllReadyH.cons (o := ⟨_, _, _, _, _, _⟩) rfl (fun K hK => ?_) (AllReadyH.cons (o := ⟨_, _, _, _, _, _⟩) rfl (fun K hK => ?_) AllReadyH.nil)
    · refine step_own_src _ rfl _ _ 22 22 (by rfl) w0.heap.size 5 i0 (.int .u8 0) 1 1 Try.underlying22 hi hz0 hz1 hz2 rfl (by decide) _ _ _ (by rfl) HEwA1.out _ _ _ (by rfl) (HBY.out _ HBwA1.out).srcC (by simp; unfold maxLen; omega) (by simp; omega) HBwA1.out.size ?_
      intro vwA2 wA2 hO hG
      have HBwA2 : Hid (Below w0.heap.size w0 wA2) := Lib.hid (HBwA1.out.grown hG.gb HBwA1.out.size (fun k hk => (World.ownsRow.lt HEwA1.out k hk).1))
      have HEwA2 : Hid (Own wA2 w0.heap.size vwA2 l) := Lib.hid (own_more' (l := []) (by simp) hO)
      clear hO hG
      refine hK.out _ _ (by exact HF.out _ (Hid.out (by assumption))) (fun hHeld => ?_)
      clear hK K
      try simp only [Act.put, List.setIfInBounds_toArray, List.set_cons_zero, List.set_cons_succ]
      refine wpAnyH_ready (rs := [3]) (by kernel_rfl) (by simp) ?_
      refine AllReadyH.cons (o := ⟨_, _, _, _, _, _⟩) rfl (fun K hK => ?_) AllReadyH.nil
      go_simp
      refine any_step (fun wA3 hN => ?_)
      have HZwA3 : Hid (wA2.heap.size < wA3.heap.size) := Lib.hid (by rw [hN]; simp)
      have HKwA3 : Hid (∀ k, k < wA2.heap.size → wA3.heap[k]? = wA2.heap[k]?) := Lib.hid (fun k hk => by rw [hN]; exact Below.heap_alloc _ _ k hk)
      have HBwA3 : Hid (Below w0.heap.size w0 wA3) := Lib.hid (by rw [hN]; exact Below.alloc HBwA2.out HBwA2.out.size _)
      have HTwA3 : Hid (BytesC (fun k => w0.heap.size ≤ k ∧ k < wA2.heap.size + 1) wA3 (.slice (some ⟨wA2.heap.size, 0, none⟩) 8 8) d8) := Lib.hid (by rw [hN]; exact (lit8_c wA2).kept (fun k hk => ⟨⟨Nat.le_trans HBwA2.out.size hk.1, hk.2⟩, rfl⟩))
      have HLwA3 : Hid (wA2.heap.size + 1 ≤ wA3.heap.size) := Lib.hid (by rw [hN]; simp)
      clear hN
      have HEwA3 := Lib.hid (Own.kept HEwA2.out (w' := wA3) (fun k hk => HKwA3.out k (World.ownsRow.lt HEwA2.out k hk).2))
      try go_wp2_with fail
      refine hK.out _ _ (by exact HF.out _ (Hid.out (by assumption))) (fun hHeld => ?_)
      clear hK K
      try simp only [Act.put, List.setIfInBounds_toArray, List.set_cons_zero, List.set_cons_succ]
      refine wpAnyH_ready (rs := [4]) (by kernel_rfl) (by simp) ?_
      refine AllReadyH.cons (o := ⟨_, _, _, _, _, _⟩) rfl (fun K hK => ?_) AllReadyH.nil
      refine step_own_src _ rfl _ _ 22 22 (by rfl) w0.heap.size 5 i0 (.int .u8 0) 1 1 Try.underlying22 hi hz0 hz1 hz2 rfl (by decide) _ _ _ (by rfl) HEwA3.out _ _ _ (by rfl) HTwA3.out.srcC (by simp [d8]; unfold maxLen; omega) (by simp [d8]; omega) HBwA3.out.size ?_
      intro vwA4 wA4 hO hG
      have HBwA4 : Hid (Below w0.heap.size w0 wA4) := Lib.hid (HBwA3.out.grown hG.gb HBwA3.out.size (fun k hk => (World.ownsRow.lt HEwA3.out k hk).1))
      have HEwA4 : Hid (Own wA4 w0.heap.size vwA4 (l ++ d8)) := Lib.hid (own_more' (by simp [d8]) hO)
      clear hO hG
      refine hK.out _ _ (by exact HF.out _ (Hid.out (by assumption))) (fun hHeld => ?_)
      clear hK K
      try simp only [Act.put, List.setIfInBounds_toArray, List.set_cons_zero, List.set_cons_succ]
      refine wpAnyH_ready (rs := [6]) (by kernel_rfl) (by simp) ?_
      refine AllReadyH.cons (o := ⟨_, _, _, _, _, _⟩) rfl (fun K hK => ?_) AllReadyH.nil
      go_simp
      refine (cut_ok _ _ (l ++ d8) least most bits wA4 (fun k hk => hk.2) (own_c HEwA4.out) (by simp [d8]; omega) hg.out).mono ?_
      rintro e w9 ⟨v9, rfl, hO9, hb9⟩
      have HB9 : Hid (Below w0.heap.size w0 w9) := Lib.hid (below_tr HBwA4.out hb9)
      have HM9 := Lib.hid (ownI_c hO9)
      obtain ⟨a9, c9, rfl⟩ := ownI_slice hO9
      clear hO9 hb9
      try go_wp2_with fail
      refine hK.out _ _ (by exact HF.out _ (Hid.out (by assumption))) (fun hHeld => ?_)
      clear hK K
      try simp only [Act.put, List.setIfInBounds_toArray, List.set_cons_zero, List.set_cons_succ]
      refine wpAnyH_take (i := 7) (oi := ⟨_, _, _, _, _, _⟩) (v := ?_) rfl (by kernel_rfl) (by kernel_rfl) (by kernel_rfl) (fun _ _ _ h => h) (Or.inl ⟨by rfl, ?_⟩) (by assumption) ?_
      rotate_left
      · intro w hSw; (try dsimp only at hSw); first | (go_simp; done) | (go_simp; with_reducible rfl)
      try simp only [Act.put, List.setIfInBounds_toArray, List.set_cons_zero, List.set_cons_succ]
      refine wpAnyH_take (i := 8) (oi := ⟨_, _, _, _, _, _⟩) (v := ?_) rfl (by kernel_rfl) (by kernel_rfl) (by kernel_rfl) (fun _ _ _ h => h) (Or.inl ⟨by rfl, ?_⟩) (by assumption) ?_
      rotate_left
      · intro w hSw; (try dsimp only at hSw); first | (go_simp; done) | (go_simp; with_reducible rfl)
      try simp only [Act.put, List.setIfInBounds_toArray, List.set_cons_zero, List.set_cons_succ]
      refine wpAnyH_take (i := 9) (oi := ⟨_, _, _, _, _, _⟩) (v := ?_) rfl (by kernel_rfl) (by kernel_rfl) (by kernel_rfl) (fun _ _ _ h => h) (Or.inl ⟨by rfl, ?_⟩) (by assumption) ?_
      rotate_left
      · intro w hSw; (try dsimp only at hSw); first | (go_simp; done) | (go_simp; with_reducible rfl)
      try simp only [Act.put, List.setIfInBounds_toArray, List.set_cons_zero, List.set_cons_succ]
      refine wpAnyH_take (i := 10) (oi := ⟨_, _, _, _, _, _⟩) (v := ?_) rfl (by kernel_rfl) (by kernel_rfl) (by kernel_rfl) (fun _ _ _ h => h) (Or.inl ⟨by rfl, ?_⟩) (by assumption) ?_
      rotate_left
      · intro w hSw; (try dsimp only at hSw); first | (go_simp; done) | (go_simp; with_reducible rfl)
      try simp only [Act.put, List.setIfInBounds_toArray, List.set_cons_zero, List.set_cons_succ]
      refine wpAnyH_take (i := 11) (oi := ⟨_, _, _, _, _, _⟩) (v := ?_) rfl (by kernel_rfl) (by kernel_rfl) (by kernel_rfl) (fun _ _ _ h => h) (Or.inl ⟨by rfl, ?_⟩) (by assumption) ?_
      rotate_left
      · intro w hSw; (try dsimp only at hSw); first | (go_simp; done) | (go_simp; with_reducible rfl)
      try simp only [Act.put, List.setIfInBounds_toArray, List.set_cons_zero, List.set_cons_succ]
      refine wpAnyH_done (by kernel_rfl) ?_ _
      by_cases hlm : ls.length < (cutL least most bits (l ++ d8)).length
      · have gd : decide (ls.length < (cutL least most bits (l ++ d8)).length) = true := by simpa using hlm
        have HE : Hid (wholeB least most bits l ls = decide ((cutL least most bits (l ++ d8)).take ls.length = ls)) := Lib.hid (by unfold wholeB; rw [gd, HNE.out]; simp)
        have HCM := Lib.hid (cut_count least most bits _ (l ++ d8) (Nat.le_refl _))
        generalize cutL least most bits (l ++ d8) = M at *
        rcases HM9.out with ⟨_, h0⟩ | ⟨aa, ca', h1, hm1, hm2, _, _⟩
        · rw [h0] at hlm; simp at hlm
        injection h1 with e1 _ e1c
        subst e1 e1c
        have hm3 : c9 ≤ 9223372036854775807 := by unfold maxLen at hm2; omega
        have HT := Lib.hid (cut_i HM9.out ls.length (by omega))
        have HTL : Hid ((M.take ls.length).length = ls.length) := Lib.hid (by rw [List.length_take]; omega)
        go_wp2_with fail
        refine (same_any _ _ _ _ (M.take ls.length) ls w9 HT.out (HLS.out _ HB9.out) (by rw [HTL.out]; omega)).mono ?_
        rintro e w10 ⟨rfl, n10, rfl⟩
        have HB10 := Lib.hid (below_tn HB9.out n10)
        generalize w9.drewN n10 = w10 at *
        rw [← HE.out]
        go_wp2_with fail
        go_ret
        exact ⟨rfl, HBW.out.trans (HB10.out.mono HBW.out.size)⟩
      · have gd : decide (ls.length < (cutL least most bits (l ++ d8)).length) = false := by simpa using hlm
        have HE : Hid (wholeB least most bits l ls = false) := Lib.hid (by unfold wholeB; rw [gd, HNE.out]; simp)
        generalize cutL least most bits (l ++ d8) = M at *
        go_wp2_with fail
        go_ret
        exact ⟨by rw [HE.out]; rfl, HBW.out.trans (HB9.out.mono HBW.out.size)⟩
    · go_simp
      refine any_step (fun wA6 hN => ?_)
      have HZwA6 : Hid (wA1.heap.size < wA6.heap.size) := Lib.hid (by rw [hN]; simp)
      have HKwA6 : Hid (∀ k, k < wA1.heap.size → wA6.heap[k]? = wA1.heap[k]?) := Lib.hid (fun k hk => by rw [hN]; exact Below.heap_alloc _ _ k hk)
      have HBwA6 : Hid (Below w0.heap.size w0 wA6) := Lib.hid (by rw [hN]; exact Below.alloc HBwA1.out HBwA1.out.size _)
      have HTwA6 : Hid (BytesC (fun k => wA1.heap.size ≤ k ∧ k < wA1.heap.size + 1) wA6 (.slice (some ⟨wA1.heap.size, 0, none⟩) 8 8) d8) := Lib.hid (by rw [hN]; exact (lit8_c wA1).kept (fun k hk => ⟨hk, rfl⟩))
      have HLwA6 : Hid (wA1.heap.size + 1 ≤ wA6.heap.size) := Lib.hid (by rw [hN]; simp)
      clear hN
      have HEwA6 := Lib.hid (Own.kept HEwA1.out (w' := wA6) (fun k hk => HKwA6.out k (World.ownsRow.lt HEwA1.out k hk).2))
      have HQA2 : Hid (∀ k, (Value.slice (some ⟨wd.heap.size, 0, none⟩) 0 0).ownBlock = some k → k < wA1.heap.size) := Lib.hid (fun k hk => (World.ownsRow.lt HEwA1.out k hk).2)
      try go_wp2_with fail
      refine hK.out _ _ (by exact HF.out _ (Hid.out (by assumption))) (fun hHeld => ?_)
      clear hK K
      try simp only [Act.put, List.setIfInBounds_toArray, List.set_cons_zero, List.set_cons_succ]
      refine wpAnyH_ready (rs := [2]) (by kernel_rfl) (by simp) ?_
      refine AllReadyH.cons (o := ⟨_, _, _, _, _, _⟩) rfl (fun K hK => ?_) AllReadyH.nil
      refine step_own_src _ rfl _ _ 22 22 (by rfl) w0.heap.size 5 i0 (.int .u8 0) 1 1 Try.underlying22 hi hz0 hz1 hz2 rfl (by decide) _ _ _ (by rfl) HEwA6.out _ _ _ (by rfl) (HBY.out _ HBwA6.out).srcC (by simp; unfold maxLen; omega) (by simp; omega) HBwA6.out.size ?_
      intro vwA7 wA7 hO hG
      have HBwA7 : Hid (Below w0.heap.size w0 wA7) := Lib.hid (HBwA6.out.grown hG.gb HBwA6.out.size (fun k hk => (World.ownsRow.lt HEwA6.out k hk).1))
      have HEwA7 : Hid (Own wA7 w0.heap.size vwA7 l) := Lib.hid (own_more' (l := []) (by simp) hO)
      have HTwA7 := Lib.hid (HTwA6.out.kept (S' := fun k => wA1.heap.size ≤ k ∧ k < wA1.heap.size + 1) (fun k hk => ⟨hk, hG.gb.block k (by have := hk.2; have := HLwA6.out; omega) (fun e => by have := HQA2.out k e.symm; have := hk.1; omega)⟩))
      have HLwA7 : Hid (wA1.heap.size + 1 ≤ wA7.heap.size) := Lib.hid (by have := HLwA6.out; have := hG.size; omega)
      clear hO hG
      refine hK.out _ _ (by exact HF.out _ (Hid.out (by assumption))) (fun hHeld => ?_)
      clear hK K
      try simp only [Act.put, List.setIfInBounds_toArray, List.set_cons_zero, List.set_cons_succ]
      refine wpAnyH_ready (rs := [4]) (by kernel_rfl) (by simp) ?_
      refine AllReadyH.cons (o := ⟨_, _, _, _, _, _⟩) rfl (fun K hK => ?_) AllReadyH.nil
      refine step_own_src _ rfl _ _ 22 22 (by rfl) w0.heap.size 5 i0 (.int .u8 0) 1 1 Try.underlying22 hi hz0 hz1 hz2 rfl (by decide) _ _ _ (by rfl) HEwA7.out _ _ _ (by rfl) HTwA7.out.srcC (by simp [d8]; unfold maxLen; omega) (by simp [d8]; omega) HBwA7.out.size ?_
      intro vwA8 wA8 hO hG
      have HBwA8 : Hid (Below w0.heap.size w0 wA8) := Lib.hid (HBwA7.out.grown hG.gb HBwA7.out.size (fun k hk => (World.ownsRow.lt HEwA7.out k hk).1))
      have HEwA8 : Hid (Own wA8 w0.heap.size vwA8 (l ++ d8)) := Lib.hid (own_more' (by simp [d8]) hO)
      clear hO hG
      refine hK.out _ _ (by exact HF.out _ (Hid.out (by assumption))) (fun hHeld => ?_)
      clear hK K
      try simp only [Act.put, List.setIfInBounds_toArray, List.set_cons_zero, List.set_cons_succ]
      refine wpAnyH_ready (rs := [6]) (by kernel_rfl) (by simp) ?_
      refine AllReadyH.cons (o := ⟨_, _, _, _, _, _⟩) rfl (fun K hK => ?_) AllReadyH.nil
      go_simp
      refine (cut_ok _ _ (l ++ d8) least most bits wA8 (fun k hk => hk.2) (own_c HEwA8.out) (by simp [d8]; omega) hg.out).mono ?_
      rintro e w9 ⟨v9, rfl, hO9, hb9⟩
      have HB9 : Hid (Below w0.heap.size w0 w9) := Lib.hid (below_tr HBwA8.out hb9)
      have HM9 := Lib.hid (ownI_c hO9)
      obtain ⟨a9, c9, rfl⟩ := ownI_slice hO9
      clear hO9 hb9
      try go_wp2_with fail
      refine hK.out _ _ (by exact HF.out _ (Hid.out (by assumption))) (fun hHeld => ?_)
      clear hK K
      try simp only [Act.put, List.setIfInBounds_toArray, List.set_cons_zero, List.set_cons_succ]
      refine wpAnyH_take (i := 7) (oi := ⟨_, _, _, _, _, _⟩) (v := ?_) rfl (by kernel_rfl) (by kernel_rfl) (by kernel_rfl) (fun _ _ _ h => h) (Or.inl ⟨by rfl, ?_⟩) (by assumption) ?_
      rotate_left
      · intro w hSw; (try dsimp only at hSw); first | (go_simp; done) | (go_simp; with_reducible rfl)
      try simp only [Act.put, List.setIfInBounds_toArray, List.set_cons_zero, List.set_cons_succ]
      refine wpAnyH_take (i := 8) (oi := ⟨_, _, _, _, _, _⟩) (v := ?_) rfl (by kernel_rfl) (by kernel_rfl) (by kernel_rfl) (fun _ _ _ h => h) (Or.inl ⟨by rfl, ?_⟩) (by assumption) ?_
      rotate_left
      · intro w hSw; (try dsimp only at hSw); first | (go_simp; done) | (go_simp; with_reducible rfl)
      try simp only [Act.put, List.setIfInBounds_toArray, List.set_cons_zero, List.set_cons_succ]
      refine wpAnyH_take (i := 9) (oi := ⟨_, _, _, _, _, _⟩) (v := ?_) rfl (by kernel_rfl) (by kernel_rfl) (by kernel_rfl) (fun _ _ _ h => h) (Or.inl ⟨by rfl, ?_⟩) (by assumption) ?_
      rotate_left
      · intro w hSw; (try dsimp only at hSw); first | (go_simp; done) | (go_simp; with_reducible rfl)
      try simp only [Act.put, List.setIfInBounds_toArray, List.set_cons_zero, List.set_cons_succ]
      refine wpAnyH_take (i := 10) (oi := ⟨_, _, _, _, _, _⟩) (v := ?_) rfl (by kernel_rfl) (by kernel_rfl) (by kernel_rfl) (fun _ _ _ h => h) (Or.inl ⟨by rfl, ?_⟩) (by assumption) ?_
      rotate_left
      · intro w hSw; (try dsimp only at hSw); first | (go_simp; done) | (go_simp; with_reducible rfl)
      try simp only [Act.put, List.setIfInBounds_toArray, List.set_cons_zero, List.set_cons_succ]
      refine wpAnyH_take (i := 11) (oi := ⟨_, _, _, _, _, _⟩) (v := ?_) rfl (by kernel_rfl) (by kernel_rfl) (by kernel_rfl) (fun _ _ _ h => h) (Or.inl ⟨by rfl, ?_⟩) (by assumption) ?_
      rotate_left
      · intro w hSw; (try dsimp only at hSw); first | (go_simp; done) | (go_simp; with_reducible rfl)
      try simp only [Act.put, List.setIfInBounds_toArray, List.set_cons_zero, List.set_cons_succ]
      refine wpAnyH_done (by kernel_rfl) ?_ _
      by_cases hlm : ls.length < (cutL least most bits (l ++ d8)).length
      · have gd : decide (ls.length < (cutL least most bits (l ++ d8)).length) = true := by simpa using hlm
        have HE : Hid (wholeB least most bits l ls = decide ((cutL least most bits (l ++ d8)).take ls.length = ls)) := Lib.hid (by unfold wholeB; rw [gd, HNE.out]; simp)
        have HCM := Lib.hid (cut_count least most bits _ (l ++ d8) (Nat.le_refl _))
        generalize cutL least most bits (l ++ d8) = M at *
        rcases HM9.out with ⟨_, h0⟩ | ⟨aa, ca', h1, hm1, hm2, _, _⟩
        · rw [h0] at hlm; simp at hlm
        injection h1 with e1 _ e1c
        subst e1 e1c
        have hm3 : c9 ≤ 9223372036854775807 := by unfold maxLen at hm2; omega
        have HT := Lib.hid (cut_i HM9.out ls.length (by omega))
        have HTL : Hid ((M.take ls.length).length = ls.length) := Lib.hid (by rw [List.length_take]; omega)
        go_wp2_with fail
        refine (same_any _ _ _ _ (M.take ls.length) ls w9 HT.out (HLS.out _ HB9.out) (by rw [HTL.out]; omega)).mono ?_
        rintro e w10 ⟨rfl, n10, rfl⟩
        have HB10 := Lib.hid (below_tn HB9.out n10)
        generalize w9.drewN n10 = w10 at *
        rw [← HE.out]
        go_wp2_with fail
        go_ret
        exact ⟨rfl, HBW.out.trans (HB10.out.mono HBW.out.size)⟩
      · have gd : decide (ls.length < (cutL least most bits (l ++ d8)).length) = false := by simpa using hlm
        have HE : Hid (wholeB least most bits l ls = false) := Lib.hid (by unfold wholeB; rw [gd, HNE.out]; simp)
        generalize cutL least most bits (l ++ d8) = M at *
        go_wp2_with fail
        go_ret
        exact ⟨by rw [HE.out]; rfl, HBW.out.trans (HB9.out.mono HBW.out.size)⟩
  · go_simp
    refine any_step (fun wA10 hN => ?_)
    have HZwA10 : Hid (wd.heap.size < wA10.heap.size) := Lib.hid (by rw [hN]; simp)
    have HKwA10 : Hid (∀ k, k < wd.heap.size → wA10.heap[k]? = wd.heap[k]?) := Lib.hid (fun k hk => by rw [hN]; exact Below.heap_alloc _ _ k hk)
    have HBwA10 : Hid (Below w0.heap.size w0 wA10) := Lib.hid (by rw [hN]; exact Below.alloc HBwd.out HBwd.out.size _)
    have HTwA10 : Hid (BytesC (fun k => w0.heap.size ≤ k ∧ k < wd.heap.size + 1) wA10 (.slice (some ⟨wd.heap.size, 0, none⟩) 8 8) d8) := Lib.hid (by rw [hN]; exact (lit8_c wd).kept (fun k hk => ⟨⟨Nat.le_trans HBwd.out.size hk.1, hk.2⟩, rfl⟩))
    have HLwA10 : Hid (wd.heap.size + 1 ≤ wA10.heap.size) := Lib.hid (by rw [hN]; simp)
    clear hN
    try go_wp2_with fail
    refine hK.out _ _ (by exact HF.out _ (Hid.out (by assumption))) (fun hHeld => ?_)
    clear hK K
    try simp only [Act.put, List.setIfInBounds_toArray, List.set_cons_zero, List.set_cons_succ]
    refine wpAnyH_ready (rs := [0]) (by kernel_rfl) (by simp) ?_
    refine AllReadyH.cons (o := ⟨_, _, _, _, _, _⟩) rfl (fun K hK => ?_) AllReadyH.nil
    go_simp
    refine any_step (fun wA11 hN => ?_)
    have HZwA11 : Hid (wA10.heap.size < wA11.heap.size) := Lib.hid (by rw [hN]; simp)
    have HKwA11 : Hid (∀ k, k < wA10.heap.size → wA11.heap[k]? = wA10.heap[k]?) := Lib.hid (fun k hk => by rw [hN]; exact Below.heap_alloc _ _ k hk)
    have HBwA11 : Hid (Below w0.heap.size w0 wA11) := Lib.hid (by rw [hN]; exact Below.alloc HBwA10.out HBwA10.out.size _)
    have HEwA11 : Hid (Own wA11 w0.heap.size (.slice (some ⟨wA10.heap.size, 0, none⟩) 0 0) []) := Lib.hid (by rw [hN]; exact own_lower HBwA10.out.size (own_empty wA10))
    clear hN
    have HTwA11 := Lib.hid (HTwA10.out.kept (S' := fun k => w0.heap.size ≤ k ∧ k < wd.heap.size + 1) (fun k hk => ⟨hk, HKwA11.out k (by have := hk.2; have := HLwA10.out; omega)⟩))
    have HLwA11 : Hid (wd.heap.size + 1 ≤ wA11.heap.size) := Lib.hid (by have := HLwA10.out; have := HZwA11.out; omega)
    have HDwA11 : Hid (∀ k, k < wd.heap.size + 1 → (Value.slice (some ⟨wA10.heap.size, 0, none⟩) 0 0).ownBlock ≠ some k) := Lib.hid (fun k hk e => by simp [Value.ownBlock] at e; have := HLwA10.out; omega)
    try go_wp2_with fail
    refine hK.out _ _ (by exact HF.out _ (Hid.out (by assumption))) (fun hHeld => ?_)
    clear hK K
    try simp only [Act.put, List.setIfInBounds_toArray, List.set_cons_zero, List.set_cons_succ]
    refine wpAnyH_ready (rs := [2]) (by kernel_rfl) (by simp) ?_
    refine AllReadyH.cons (o := ⟨_, _, _, _, _, _⟩) rfl (fun K hK => ?_) AllReadyH.nil
    refine step_own_src _ rfl _ _ 22 22 (by rfl) w0.heap.size 5 i0 (.int .u8 0) 1 1 Try.underlying22 hi hz0 hz1 hz2 rfl (by decide) _ _ _ (by rfl) HEwA11.out _ _ _ (by rfl) (HBY.out _ HBwA11.out).srcC (by simp; unfold maxLen; omega) (by simp; omega) HBwA11.out.size ?_
    intro vwA12 wA12 hO hG
    have HBwA12 : Hid (Below w0.heap.size w0 wA12) := Lib.hid (HBwA11.out.grown hG.gb HBwA11.out.size (fun k hk => (World.ownsRow.lt HEwA11.out k hk).1))
    have HEwA12 : Hid (Own wA12 w0.heap.size vwA12 l) := Lib.hid (own_more' (l := []) (by simp) hO)
    have HTwA12 := Lib.hid (HTwA11.out.kept (S' := fun k => w0.heap.size ≤ k ∧ k < wd.heap.size + 1) (fun k hk => ⟨hk, hG.gb.block k (by have := hk.2; have := HLwA11.out; omega) (fun e => by have := HDwA11.out k hk.2; exact this e.symm)⟩))
    have HLwA12 : Hid (wd.heap.size + 1 ≤ wA12.heap.size) := Lib.hid (by have := HLwA11.out; have := hG.size; omega)
    clear hO hG
    refine hK.out _ _ (by exact HF.out _ (Hid.out (by assumption))) (fun hHeld => ?_)
    clear hK K
    try simp only [Act.put, List.setIfInBounds_toArray, List.set_cons_zero, List.set_cons_succ]
    refine wpAnyH_ready (rs := [4]) (by kernel_rfl) (by simp) ?_
    refine AllReadyH.cons (o := ⟨_, _, _, _, _, _⟩) rfl (fun K hK => ?_) AllReadyH.nil
    refine step_own_src _ rfl _ _ 22 22 (by rfl) w0.heap.size 5 i0 (.int .u8 0) 1 1 Try.underlying22 hi hz0 hz1 hz2 rfl (by decide) _ _ _ (by rfl) HEwA12.out _ _ _ (by rfl) HTwA12.out.srcC (by simp [d8]; unfold maxLen; omega) (by simp [d8]; omega) HBwA12.out.size ?_
    intro vwA13 wA13 hO hG
    have HBwA13 : Hid (Below w0.heap.size w0 wA13) := Lib.hid (HBwA12.out.grown hG.gb HBwA12.out.size (fun k hk => (World.ownsRow.lt HEwA12.out k hk).1))
    have HEwA13 : Hid (Own wA13 w0.heap.size vwA13 (l ++ d8)) := Lib.hid (own_more' (by simp [d8]) hO)
    clear hO hG
    refine hK.out _ _ (by exact HF.out _ (Hid.out (by assumption))) (fun hHeld => ?_)
    clear hK K
    try simp only [Act.put, List.setIfInBounds_toArray, List.set_cons_zero, List.set_cons_succ]
    refine wpAnyH_ready (rs := [6]) (by kernel_rfl) (by simp) ?_
    refine AllReadyH.cons (o := ⟨_, _, _, _, _, _⟩) rfl (fun K hK => ?_) AllReadyH.nil
    go_simp
    refine (cut_ok _ _ (l ++ d8) least most bits wA13 (fun k hk => hk.2) (own_c HEwA13.out) (by simp [d8]; omega) hg.out).mono ?_
    rintro e w9 ⟨v9, rfl, hO9, hb9⟩
    have HB9 : Hid (Below w0.heap.size w0 w9) := Lib.hid (below_tr HBwA13.out hb9)
    have HM9 := Lib.hid (ownI_c hO9)
    obtain ⟨a9, c9, rfl⟩ := ownI_slice hO9
    clear hO9 hb9
    try go_wp2_with fail
    refine hK.out _ _ (by exact HF.out _ (Hid.out (by assumption))) (fun hHeld => ?_)
    clear hK K
    try simp only [Act.put, List.setIfInBounds_toArray, List.set_cons_zero, List.set_cons_succ]
    refine wpAnyH_take (i := 7) (oi := ⟨_, _, _, _, _, _⟩) (v := ?_) rfl (by kernel_rfl) (by kernel_rfl) (by kernel_rfl) (fun _ _ _ h => h) (Or.inl ⟨by rfl, ?_⟩) (by assumption) ?_
    rotate_left
    · intro w hSw; (try dsimp only at hSw); first | (go_simp; done) | (go_simp; with_reducible rfl)
    try simp only [Act.put, List.setIfInBounds_toArray, List.set_cons_zero, List.set_cons_succ]
    refine wpAnyH_take (i := 8) (oi := ⟨_, _, _, _, _, _⟩) (v := ?_) rfl (by kernel_rfl) (by kernel_rfl) (by kernel_rfl) (fun _ _ _ h => h) (Or.inl ⟨by rfl, ?_⟩) (by assumption) ?_
    rotate_left
    · intro w hSw; (try dsimp only at hSw); first | (go_simp; done) | (go_simp; with_reducible rfl)
    try simp only [Act.put, List.setIfInBounds_toArray, List.set_cons_zero, List.set_cons_succ]
    refine wpAnyH_take (i := 9) (oi := ⟨_, _, _, _, _, _⟩) (v := ?_) rfl (by kernel_rfl) (by kernel_rfl) (by kernel_rfl) (fun _ _ _ h => h) (Or.inl ⟨by rfl, ?_⟩) (by assumption) ?_
    rotate_left
    · intro w hSw; (try dsimp only at hSw); first | (go_simp; done) | (go_simp; with_reducible rfl)
    try simp only [Act.put, List.setIfInBounds_toArray, List.set_cons_zero, List.set_cons_succ]
    refine wpAnyH_take (i := 10) (oi := ⟨_, _, _, _, _, _⟩) (v := ?_) rfl (by kernel_rfl) (by kernel_rfl) (by kernel_rfl) (fun _ _ _ h => h) (Or.inl ⟨by rfl, ?_⟩) (by assumption) ?_
    rotate_left
    · intro w hSw; (try dsimp only at hSw); first | (go_simp; done) | (go_simp; with_reducible rfl)
    try simp only [Act.put, List.setIfInBounds_toArray, List.set_cons_zero, List.set_cons_succ]
    refine wpAnyH_take (i := 11) (oi := ⟨_, _, _, _, _, _⟩) (v := ?_) rfl (by kernel_rfl) (by kernel_rfl) (by kernel_rfl) (fun _ _ _ h => h) (Or.inl ⟨by rfl, ?_⟩) (by assumption) ?_
    rotate_left
    · intro w hSw; (try dsimp only at hSw); first | (go_simp; done) | (go_simp; with_reducible rfl)
    try simp only [Act.put, List.setIfInBounds_toArray, List.set_cons_zero, List.set_cons_succ]
    refine wpAnyH_done (by kernel_rfl) ?_ _
    by_cases hlm : ls.length < (cutL least most bits (l ++ d8)).length
    · have gd : decide (ls.length < (cutL least most bits (l ++ d8)).length) = true := by simpa using hlm
      have HE : Hid (wholeB least most bits l ls = decide ((cutL least most bits (l ++ d8)).take ls.length = ls)) := Lib.hid (by unfold wholeB; rw [gd, HNE.out]; simp)
      have HCM := Lib.hid (cut_count least most bits _ (l ++ d8) (Nat.le_refl _))
      generalize cutL least most bits (l ++ d8) = M at *
      rcases HM9.out with ⟨_, h0⟩ | ⟨aa, ca', h1, hm1, hm2, _, _⟩
      · rw [h0] at hlm; simp at hlm
      injection h1 with e1 _ e1c
      subst e1 e1c
      have hm3 : c9 ≤ 9223372036854775807 := by unfold maxLen at hm2; omega
      have HT := Lib.hid (cut_i HM9.out ls.length (by omega))
      have HTL : Hid ((M.take ls.length).length = ls.length) := Lib.hid (by rw [List.length_take]; omega)
      go_wp2_with fail
      refine (same_any _ _ _ _ (M.take ls.length) ls w9 HT.out (HLS.out _ HB9.out) (by rw [HTL.out]; omega)).mono ?_
      rintro e w10 ⟨rfl, n10, rfl⟩
      have HB10 := Lib.hid (below_tn HB9.out n10)
      generalize w9.drewN n10 = w10 at *
      rw [← HE.out]
      go_wp2_with fail
      go_ret
      exact ⟨rfl, HBW.out.trans (HB10.out.mono HBW.out.size)⟩
    · have gd : decide (ls.length < (cutL least most bits (l ++ d8)).length) = false := by simpa using hlm
      have HE : Hid (wholeB least most bits l ls = false) := Lib.hid (by unfold wholeB; rw [gd, HNE.out]; simp)
      generalize cutL least most bits (l ++ d8) = M at *
      go_wp2_with fail
      go_ret
      exact ⟨by rw [HE.out]; rfl, HBW.out.trans (HB9.out.mono HBW.out.size)⟩
end Go.Proofs.Ytgfnlplgkgoinaa
