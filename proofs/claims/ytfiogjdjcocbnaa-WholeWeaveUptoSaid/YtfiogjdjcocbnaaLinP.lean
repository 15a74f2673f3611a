/- The walk of the law LinesSplit. -/
import Derived.Test.YtfiogjdjcocbnaaLinO
namespace Go.Proofs.Ytfiogjdjcocbnaa
open Go.RowKit
attribute [local go_sem ↓] Go.wp_at_zero Go.wp_at_succ

theorem below_dr (w : World) : Below w.heap.size w w.drew := (Below.refl _ w).drew
theorem same_yes (S T : Nat → Prop) (va vb : Value) (a b : List (List UInt8)) (w : World) (ha : StrsC S w va a) (hb : StrsC T w vb b) (hal : a.length ≤ 4194304) (hbl : b.length ≤ 4194304) (e : a = b) :
    Calls Try.prog 20 #[va, vb] w fun e w' => e = .returned (.bool true) ∧ ∃ n, w' = w.drewN n :=
  (same_any S T va vb a b w ha hb hal hbl).mono fun _ _ ⟨h1, h2⟩ => ⟨by rw [h1, decide_eq_true e], h2⟩
/-- What each law leaves: true, and nothing that was there has turned. -/
def TrueP (w : World) (e : Ending) (w' : World) : Prop := e = .returned (.bool true) ∧ Below w.heap.size w w'
set_option maxRecDepth 100000 in
set_option maxHeartbeats 8000000 in
theorem lsplit_law (S : Nat → Prop) (v : Value) (l : List UInt8) (w : World) (hS : ∀ k, S k → k < w.heap.size) (h : BytesC S w v l) (hl : l.length ≤ 4194304) :
    Calls Try.prog 3 #[v] w (TrueP w) := by
  unfold TrueP
  obtain ⟨la, lc, rfl⟩ := h.shape
  have HS := Lib.hid hS
  have H := Lib.hid h
  have hll : (linesL l).length ≤ 4194304 := Nat.le_trans (linesL_len l) hl
  have hfl : (linesL l).flatten.length ≤ 4194304 := by rw [linesL_flat]; exact hl
  clear hS h
  go_enter Try.func3, Try.ntmps3
  go_wp2_with fail
  refine (awake7_any _).mono ?_
  rintro e w1 ⟨rfl, hb1⟩
  have B1 := Lib.hid hb1
  clear hb1
  go_wp2_with fail
  refine (split_any S _ l w1 (fun k hk => by have := HS.out k hk; have := B1.out.size; omega) (H.out.kept (fun k hk => ⟨hk, B1.out.block k (HS.out k hk)⟩)) hl).mono ?_
  rintro e w0 ⟨v0, rfl, ho0, hb0⟩
  have B0 := Lib.hid (B1.out.trans (hb0.mono B1.out.size))
  have O0 := Lib.hid (ownS_c ho0)
  obtain ⟨s0a, s0c, rfl⟩ := ownS_slice ho0
  have hs1 := B1.out.size
  clear ho0 hb0
  have HBY : Hid (∀ W, Below w0.heap.size w0 W → BytesC S W (.slice la l.length lc) l) := Lib.hid (fun W hb => H.out.kept (fun k hk => ⟨hk, (hb.block k (by have := HS.out k hk; have := B0.out.size; omega)).trans (B0.out.block k (HS.out k hk))⟩))
  have HLS : Hid (∀ W, Below w0.heap.size w0 W → StrsC (fun k => k < w0.heap.size) W (.slice s0a (linesL l).length s0c) (linesL l)) := Lib.hid (fun W hb => O0.out.kept (fun k hk => ⟨hk.2, hb.block k hk.2⟩))
  have HF : Hid (∀ W, Below w0.heap.size w0 W → (convert 22 9 (.slice la l.length lc)).run Try.prog W = .ok (.string ⟨l.toArray⟩) W ∧ Hid (Below w0.heap.size w0 W)) := Lib.hid (fun W hb => ⟨bytes_str (HBY.out W hb), Lib.hid hb⟩)
  go_wp2_with fail
  refine wp_region_held_drew (S := (fun W => (convert 22 9 (.slice la l.length lc)).run Try.prog W = .ok (.string ⟨l.toArray⟩) W ∧ Hid (Below w0.heap.size w0 W))) (by kernel_rfl) (by exact HF.out _ (below_dr w0)) (fun hHeld => ?_)
  have HBd : Hid (Below w0.heap.size w0 w0.drew) := Lib.hid (below_dr w0)
  generalize w0.drew = wd at *
  refine wpAnyH_take (i := 0) (oi := ⟨_, _, _, _, _, _⟩) (v := ?_) rfl (by kernel_rfl) (by kernel_rfl) (by kernel_rfl) (fun _ _ _ h => h) (Or.inl ⟨by rfl, ?_⟩) (by assumption) ?_
  rotate_left
  · intro w hSw; (try dsimp only at hSw); first | (go_simp; done) | (go_simp; with_reducible rfl)
  try simp only [Act.put, List.setIfInBounds_toArray, List.set_cons_zero, List.set_cons_succ]
  refine wpAnyH_take (i := 1) (oi := ⟨_, _, _, _, _, _⟩) (v := ?_) rfl (by kernel_rfl) (by kernel_rfl) (by kernel_rfl) (fun _ _ _ h => h) (Or.inl ⟨by rfl, ?_⟩) (by assumption) ?_
  rotate_left
  · intro w hSw; (try dsimp only at hSw); first | (go_simp; done) | (go_simp; with_reducible rfl)
  try simp only [Act.put, List.setIfInBounds_toArray, List.set_cons_zero, List.set_cons_succ]
  refine wpAnyH_take (i := 2) (oi := ⟨_, _, _, _, _, _⟩) (v := ?_) rfl (by kernel_rfl) (by kernel_rfl) (by kernel_rfl) (fun _ _ _ h => h) (Or.inl ⟨by rfl, ?_⟩) (by assumption) ?_
  rotate_left
  · intro w hSw; (try dsimp only at hSw); first | (go_simp; done) | (go_simp; with_reducible rfl)
  try simp only [Act.put, List.setIfInBounds_toArray, List.set_cons_zero, List.set_cons_succ]
  refine wpAnyH_ready (rs := [3]) (by kernel_rfl) (by simp) ?_
  refine AllReadyH.cons (o := ⟨_, _, _, _, _, _⟩) rfl (fun K hK => ?_) AllReadyH.nil
  go_simp
  refine (rsplit_any l wd hl).mono ?_
  rintro e w5 ⟨v5, rfl, hO5, hb5⟩
  have B5 : Hid (Below w0.heap.size w0 w5) := Lib.hid (HBd.out.trans (hb5.mono HBd.out.size))
  have O5 := Lib.hid (ownS_c hO5)
  obtain ⟨s5a, s5c, rfl⟩ := ownS_slice hO5
  clear hO5 hb5
  try go_wp2_with fail
  refine hK.out _ _ (by exact HF.out _ (Hid.out (by assumption))) (fun hHeld => ?_)
  clear hK K
  try simp only [Act.put, List.setIfInBounds_toArray, List.set_cons_zero, List.set_cons_succ]
  refine wpAnyH_ready (rs := [4]) (by kernel_rfl) (by simp) ?_
  refine AllReadyH.cons (o := ⟨_, _, _, _, _, _⟩) rfl (fun K hK => ?_) AllReadyH.nil
  go_simp
  refine (same_yes _ _ _ _ (linesL l) (linesL l) w5 (HLS.out _ B5.out) O5.out hll hll rfl).mono ?_
  rintro e w6 ⟨rfl, n6, rfl⟩
  have B6 : Hid (Below w0.heap.size w0 (w5.drewN n6)) := Lib.hid (B5.out.trans (drewn _ _ _))
  generalize w5.drewN n6 = w6 at *
  clear B5 O5
  try go_wp2_with fail
  refine hK.out _ _ (by exact HF.out _ (Hid.out (by assumption))) (fun hHeld => ?_)
  clear hK K
  try simp only [Act.put, List.setIfInBounds_toArray, List.set_cons_zero, List.set_cons_succ]
  refine wpAnyH_take (i := 5) (oi := ⟨_, _, _, _, _, _⟩) (v := ?_) rfl (by kernel_rfl) (by kernel_rfl) (by kernel_rfl) (fun _ _ _ h => h) (Or.inl ⟨by rfl, ?_⟩) (by assumption) ?_
  rotate_left
  · intro w hSw; (try dsimp only at hSw); first | (go_simp; done) | (go_simp; with_reducible rfl)
  try simp only [Act.put, List.setIfInBounds_toArray, List.set_cons_zero, List.set_cons_succ]
  refine wpAnyH_take (i := 6) (oi := ⟨_, _, _, _, _, _⟩) (v := ?_) rfl (by kernel_rfl) (by kernel_rfl) (by kernel_rfl) (fun _ _ _ h => h) (Or.inl ⟨by rfl, ?_⟩) (by assumption) ?_
  rotate_left
  · intro w hSw; (try dsimp only at hSw); first | (go_simp; done) | (go_simp; with_reducible rfl)
  try simp only [Act.put, List.setIfInBounds_toArray, List.set_cons_zero, List.set_cons_succ]
  refine wpAnyH_take (i := 9) (oi := ⟨_, _, _, _, _, _⟩) (v := ?_) rfl (by kernel_rfl) (by kernel_rfl) (by kernel_rfl) (fun _ _ _ h => h) (Or.inl ⟨by rfl, ?_⟩) (by assumption) ?_
  rotate_left
  · intro w hSw; (try dsimp only at hSw); first | (go_simp; done) | (go_simp; with_reducible rfl)
  try simp only [Act.put, List.setIfInBounds_toArray, List.set_cons_zero, List.set_cons_succ]
  refine wpAnyH_take (i := 10) (oi := ⟨_, _, _, _, _, _⟩) (v := ?_) rfl (by kernel_rfl) (by kernel_rfl) (by kernel_rfl) (fun _ _ _ h => h) (Or.inl ⟨by rfl, ?_⟩) (by assumption) ?_
  rotate_left
  · intro w hSw; (try dsimp only at hSw); first | (go_simp; done) | (go_simp; with_reducible rfl)
  try simp only [Act.put, List.setIfInBounds_toArray, List.set_cons_zero, List.set_cons_succ]
  refine wpAnyH_ready (rs := [7]) (by kernel_rfl) (by simp) ?_
  refine AllReadyH.cons (o := ⟨_, _, _, _, _, _⟩) rfl (fun K hK => ?_) AllReadyH.nil
  go_simp
  refine (join_any _ _ (linesL l) w6 (fun k hk => by have := B6.out.size; omega) (HLS.out _ B6.out) hll hfl).mono ?_
  rintro e w7 ⟨v7, rfl, hO7, hb7⟩
  rw [linesL_flat] at hO7
  have B7 : Hid (Below w0.heap.size w0 w7) := Lib.hid (B6.out.trans (hb7.mono B6.out.size))
  have C7 := Lib.hid (bytes_str (own_c hO7))
  obtain ⟨s7a, s7c, rfl⟩ := own_slice hO7
  clear hO7 hb7
  try go_wp2_with fail
  refine hK.out _ _ (by exact HF.out _ (Hid.out (by assumption))) (fun hHeld => ?_)
  clear hK K
  try simp only [Act.put, List.setIfInBounds_toArray, List.set_cons_zero, List.set_cons_succ]
  refine wpAnyH_ready (rs := [8]) (by kernel_rfl) (by simp) ?_
  refine AllReadyH.cons (o := ⟨_, _, _, _, _, _⟩) rfl (fun K hK => ?_) AllReadyH.nil
  have hcv8 := C7.out
  go_simp
  clear hcv8
  refine hK.out _ _ (by exact HF.out _ (Hid.out (by assumption))) (fun hHeld => ?_)
  clear hK K
  try simp only [Act.put, List.setIfInBounds_toArray, List.set_cons_zero, List.set_cons_succ]
  refine wpAnyH_take (i := 11) (oi := ⟨_, _, _, _, _, _⟩) (v := ?_) rfl (by kernel_rfl) (by kernel_rfl) (by kernel_rfl) (fun _ _ _ h => h) (Or.inl ⟨by rfl, ?_⟩) (by assumption) ?_
  rotate_left
  · intro w hSw; (try dsimp only at hSw); first | (go_simp; done) | (go_simp; with_reducible rfl)
  try simp only [Act.put, List.setIfInBounds_toArray, List.set_cons_zero, List.set_cons_succ]
  refine wpAnyH_take (i := 12) (oi := ⟨_, _, _, _, _, _⟩) (v := ?_) rfl (by kernel_rfl) (by kernel_rfl) (by kernel_rfl) (fun _ _ _ h => h) (Or.inl ⟨by rfl, ?_⟩) (by assumption) ?_
  rotate_left
  · intro w hSw; (try dsimp only at hSw); first | (go_simp; done) | (go_simp; with_reducible rfl)
  try simp only [Act.put, List.setIfInBounds_toArray, List.set_cons_zero, List.set_cons_succ]
  refine wpAnyH_take (i := 13) (oi := ⟨_, _, _, _, _, _⟩) (v := ?_) rfl (by kernel_rfl) (by kernel_rfl) (by kernel_rfl) (fun _ _ _ h => h) (Or.inl ⟨by rfl, ?_⟩) (by assumption) ?_
  rotate_left
  · intro w hSw; (try dsimp only at hSw); first | (go_simp; done) | (go_simp; with_reducible rfl)
  try simp only [Act.put, List.setIfInBounds_toArray, List.set_cons_zero, List.set_cons_succ]
  refine wpAnyH_take (i := 14) (oi := ⟨_, _, _, _, _, _⟩) (v := ?_) rfl (by kernel_rfl) (by kernel_rfl) (by kernel_rfl) (fun _ _ _ h => h) (Or.inl ⟨by rfl, ?_⟩) (by assumption) ?_
  rotate_left
  · intro w hSw; (try dsimp only at hSw); first | (go_simp; done) | (go_simp; with_reducible rfl)
  try simp only [Act.put, List.setIfInBounds_toArray, List.set_cons_zero, List.set_cons_succ]
  refine wpAnyH_take (i := 16) (oi := ⟨_, _, _, _, _, _⟩) (v := ?_) rfl (by kernel_rfl) (by kernel_rfl) (by kernel_rfl) (fun _ _ _ h => h) (Or.inl ⟨by rfl, ?_⟩) (by assumption) ?_
  rotate_left
  · intro w hSw; (try dsimp only at hSw); first | (go_simp; done) | (go_simp; with_reducible rfl)
  try simp only [Act.put, List.setIfInBounds_toArray, List.set_cons_zero, List.set_cons_succ]
  refine wpAnyH_take (i := 17) (oi := ⟨_, _, _, _, _, _⟩) (v := ?_) rfl (by kernel_rfl) (by kernel_rfl) (by kernel_rfl) (fun _ _ _ h => h) (Or.inl ⟨by rfl, ?_⟩) (by assumption) ?_
  rotate_left
  · intro w hSw; (try dsimp only at hSw); first | (go_simp; done) | (go_simp; with_reducible rfl)
  try simp only [Act.put, List.setIfInBounds_toArray, List.set_cons_zero, List.set_cons_succ]
  refine wpAnyH_ready (rs := [15]) (by kernel_rfl) (by simp) ?_
  refine AllReadyH.cons (o := ⟨_, _, _, _, _, _⟩) rfl (fun K hK => ?_) AllReadyH.nil
  go_simp
  refine (isText_any _ _ l w7 (HBY.out _ B7.out)).mono ?_
  rintro e w8 ⟨rfl, rfl⟩
  try go_wp2_with fail
  refine hK.out _ _ (by exact HF.out _ (Hid.out (by assumption))) (fun hHeld => ?_)
  clear hK K
  try simp only [Act.put, List.setIfInBounds_toArray, List.set_cons_zero, List.set_cons_succ]
  refine wpAnyH_ready (rs := [18]) (by kernel_rfl) (by simp) ?_
  refine AllReadyH.cons (o := ⟨_, _, _, _, _, _⟩) rfl (fun K hK => ?_) AllReadyH.nil
  go_simp
  refine (risText_any l w7 hl).mono ?_
  rintro e w9 ⟨rfl, rfl⟩
  try go_wp2_with fail
  refine hK.out _ _ (by exact HF.out _ (Hid.out (by assumption))) (fun hHeld => ?_)
  clear hK K
  try simp only [Act.put, List.setIfInBounds_toArray, List.set_cons_zero, List.set_cons_succ]
  refine wpAnyH_take (i := 19) (oi := ⟨_, _, _, _, _, _⟩) (v := ?_) rfl (by kernel_rfl) (by kernel_rfl) (by kernel_rfl) (fun _ _ _ h => h) (Or.inl ⟨by rfl, ?_⟩) (by assumption) ?_
  rotate_left
  · intro w hSw; (try dsimp only at hSw); first | (go_simp; done) | (go_simp; with_reducible rfl)
  try simp only [Act.put, List.setIfInBounds_toArray, List.set_cons_zero, List.set_cons_succ]
  refine wpAnyH_take (i := 20) (oi := ⟨_, _, _, _, _, _⟩) (v := ?_) rfl (by kernel_rfl) (by kernel_rfl) (by kernel_rfl) (fun _ _ _ h => h) (Or.inl ⟨by rfl, ?_⟩) (by assumption) ?_
  rotate_left
  · intro w hSw; (try dsimp only at hSw); first | (go_simp; done) | (go_simp; with_reducible rfl)
  try simp only [Act.put, List.setIfInBounds_toArray, List.set_cons_zero, List.set_cons_succ]
  refine wpAnyH_take (i := 21) (oi := ⟨_, _, _, _, _, _⟩) (v := ?_) rfl (by kernel_rfl) (by kernel_rfl) (by kernel_rfl) (fun _ _ _ h => h) (Or.inl ⟨by rfl, ?_⟩) (by assumption) ?_
  rotate_left
  · intro w hSw; (try dsimp only at hSw); first | (go_simp; done) | (go_simp; with_reducible rfl)
  try simp only [Act.put, List.setIfInBounds_toArray, List.set_cons_zero, List.set_cons_succ]
  refine wpAnyH_done (by kernel_rfl) ?_ _
  go_wp2_with fail
  go_ret
  exact ⟨rfl, B0.out.trans (B7.out.mono B0.out.size)⟩
end Go.Proofs.Ytfiogjdjcocbnaa
