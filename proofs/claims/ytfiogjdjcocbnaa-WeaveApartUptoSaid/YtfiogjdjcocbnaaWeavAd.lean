/- The law of changes apart. -/
import Derived.Test.YtfiogjdjcocbnaaWeavAb
namespace Go.Proofs.Ytfiogjdjcocbnaa
open Go.RowKit
attribute [local go_sem ↓] Go.wp_at_zero Go.wp_at_succ

theorem three_len {x y : List (List UInt8)} {m : List UInt8} (hx : ∀ s ∈ x, s.length ≤ 4194304) (hm : m.length ≤ 4194304) (hy : ∀ s ∈ y, s.length ≤ 4194304) : ∀ s ∈ x ++ m :: y, s.length ≤ 4194304 := by
  intro s hs
  rcases List.mem_append.1 hs with h | h
  · exact hx s h
  · rcases List.mem_cons.1 h with rfl | h
    · exact hm
    · exact hy s h
set_option maxRecDepth 100000 in
set_option maxHeartbeats 8000000 in
theorem wapart_law (va0 va1 vb0 vb1 : Value) (x0 x1 y0 y1 : List (List UInt8)) (m : List UInt8) (w : World) (h0 : StrsC (fun k => k < w.heap.size) w va0 x0) (h1 : StrsC (fun k => k < w.heap.size) w va1 x1) (h2 : StrsC (fun k => k < w.heap.size) w vb0 y0) (h3 : StrsC (fun k => k < w.heap.size) w vb1 y1)
    (hsx : sumL x0 + sumL x1 ≤ 1048576) (hsy : sumL y0 + sumL y1 ≤ 1048576) (hm : m.length ≤ 4194304) :
    Calls Try.prog 14 #[.agg #[va0, va1], .agg #[vb0, vb1], .string ⟨m.toArray⟩] w (TrueP w) := by
  unfold TrueP
  obtain ⟨i0, hi, hz0, hz1, hz2⟩ := info_parts Try.info9s
  obtain ⟨l0, z0⟩ := sum_bounds (l := x0) (by omega)
  obtain ⟨l1, z1⟩ := sum_bounds (l := x1) (by omega)
  obtain ⟨l2, z2⟩ := sum_bounds (l := y0) (by omega)
  obtain ⟨l3, z3⟩ := sum_bounds (l := y1) (by omega)
  have H0 := Lib.hid (fun (W : World) (h : Below w.heap.size w W) => h0.kept (S' := fun k => k < w.heap.size) (w' := W) (fun k hk => ⟨hk, h.block k hk⟩))
  have H1 := Lib.hid (fun (W : World) (h : Below w.heap.size w W) => h1.kept (S' := fun k => k < w.heap.size) (w' := W) (fun k hk => ⟨hk, h.block k hk⟩))
  have H2 := Lib.hid (fun (W : World) (h : Below w.heap.size w W) => h2.kept (S' := fun k => k < w.heap.size) (w' := W) (fun k hk => ⟨hk, h.block k hk⟩))
  have H3 := Lib.hid (fun (W : World) (h : Below w.heap.size w W) => h3.kept (S' := fun k => k < w.heap.size) (w' := W) (fun k hk => ⟨hk, h.block k hk⟩))
  obtain ⟨a0, c0, rfl⟩ := h0.shape
  obtain ⟨a1, c1, rfl⟩ := h1.shape
  obtain ⟨b0, d0, rfl⟩ := h2.shape
  obtain ⟨b1, d1, rfl⟩ := h3.shape
  have Z0 := Lib.hid (three_len z0 hm z2)
  have Z1 := Lib.hid (three_len z1 hm z2)
  have Z2 := Lib.hid (three_len z0 hm z3)
  have HAP : Hid (m ∉ x0 ++ x1 ++ y0 ++ y1 → textN (headN [108]) (footN [114]) (mergeN (x0 ++ m :: y0) (x1 ++ m :: y0) (x0 ++ m :: y1)) = x1 ++ m :: y1 ∧ calmN (mergeN (x0 ++ m :: y0) (x1 ++ m :: y0) (x0 ++ m :: y1)) = true) := Lib.hid (fun h => apart _ _ m x0 x1 y0 y1 (fun e => h (by simp [e])) (fun e => h (by simp [e])))
  have N1 := new_five w #[.slice a0 x0.length c0, .slice a1 x1.length c1] 78
  have N2 := new_five (w.alloc (.cells #[.slice a0 x0.length c0, .slice a1 x1.length c1] 78)) #[.slice b0 y0.length d0, .slice b1 y1.length d1] 78
  have HF0 : Hid (∀ W : World, Below ((w.alloc (.cells #[.slice a0 x0.length c0, .slice a1 x1.length c1] 78)).alloc (.cells #[.slice b0 y0.length d0, .slice b1 y1.length d1] 78)).heap.size ((w.alloc (.cells #[.slice a0 x0.length c0, .slice a1 x1.length c1] 78)).alloc (.cells #[.slice b0 y0.length d0, .slice b1 y1.length d1] 78)) W → W.cell? ⟨w.heap.size, 0, none⟩ = some (.slice a0 x0.length c0) ∧ W.cell? ⟨w.heap.size, 1, none⟩ = some (.slice a1 x1.length c1) ∧ W.cell? ⟨w.heap.size + 1, 0, none⟩ = some (.slice b0 y0.length d0) ∧ W.cell? ⟨w.heap.size + 1, 1, none⟩ = some (.slice b1 y1.length d1)) := Lib.hid (fun W h => by
    have e1 := (h.block w.heap.size (by simp; omega)).trans ((Below.heap_alloc _ _ _ (by simp)).trans N1)
    have e2 := (h.block (w.alloc (.cells #[.slice a0 x0.length c0, .slice a1 x1.length c1] 78)).heap.size (by simp)).trans N2
    have e3 : (w.alloc (.cells #[.slice a0 x0.length c0, .slice a1 x1.length c1] 78)).heap.size = w.heap.size + 1 := by simp
    rw [e3] at e2
    exact ⟨by rw [cell_of_row _ _ _ _ _ _ e1]; rfl, by rw [cell_of_row _ _ _ _ _ _ e1]; rfl, by rw [cell_of_row _ _ _ _ _ _ e2]; rfl, by rw [cell_of_row _ _ _ _ _ _ e2]; rfl⟩)
  have BZ : Hid (Below w.heap.size w ((w.alloc (.cells #[.slice a0 x0.length c0, .slice a1 x1.length c1] 78)).alloc (.cells #[.slice b0 y0.length d0, .slice b1 y1.length d1] 78))) := Lib.hid (((Below.refl _ w).alloc (Nat.le_refl _) _).alloc (by simp) _)
  clear h0 h1 h2 h3 z0 z1 z2 z3 hsx hsy N1 N2
  go_enter Try.func14, Try.ntmps14
  go_wp2_with fail
  generalize (w.alloc (.cells #[.slice a0 x0.length c0, .slice a1 x1.length c1] 78)).alloc (.cells #[.slice b0 y0.length d0, .slice b1 y1.length d1] 78) = wz at *
  have BZ2 : Hid (∀ W : World, Below wz.heap.size wz W → Below w.heap.size w W) := Lib.hid (fun W h => BZ.out.trans (h.mono BZ.out.size))
  obtain ⟨pa, hpa⟩ : ∃ pa, w.heap.size = pa := ⟨_, rfl⟩
  rw [hpa] at HF0 BZ2 H0 H1 H2 H3 ⊢
  obtain ⟨pb, hpb⟩ : ∃ pb, pa + 1 = pb := ⟨_, rfl⟩
  rw [hpb] at HF0 ⊢
  have HF : Hid (∀ W : World, Below wz.heap.size wz W → W.cell? ⟨pa, 0, none⟩ = some (.slice a0 x0.length c0) ∧ W.cell? ⟨pa, 1, none⟩ = some (.slice a1 x1.length c1) ∧ W.cell? ⟨pb, 0, none⟩ = some (.slice b0 y0.length d0) ∧ W.cell? ⟨pb, 1, none⟩ = some (.slice b1 y1.length d1)) := HF0
  have hpz : pa ≤ wz.heap.size := by rw [← hpa]; exact BZ.out.size
  have HPA := Lib.hid hpa
  clear HF0 BZ hpa hpb
  refine (awake8_any _).mono ?_
  rintro e w1 ⟨rfl, hb1⟩
  have B1 := Lib.hid hb1
  clear hb1
  have hs1 := B1.out.size
  go_upto_region 3 with fail
  have BD : Hid (Below wz.heap.size wz w1.drew) := Lib.hid (B1.out.trans (drewn _ w1 1))
  refine wp_region_held_drew (S := (fun W => W.cell? ⟨pa, 0, none⟩ = some (.slice a0 x0.length c0) ∧ W.cell? ⟨pa, 1, none⟩ = some (.slice a1 x1.length c1) ∧ W.cell? ⟨pb, 0, none⟩ = some (.slice b0 y0.length d0) ∧ W.cell? ⟨pb, 1, none⟩ = some (.slice b1 y1.length d1))) (by kernel_rfl) (by exact HF.out _ (Hid.out (by assumption))) (fun hHeld => ?_)
  clear B1
  generalize w1.drew = wd at *
  refine wpAnyH_take (i := 1) (oi := ⟨_, _, _, _, _, _⟩) (v := ?_) rfl (by kernel_rfl) (by kernel_rfl) (by kernel_rfl) (fun _ _ _ h => h) (Or.inl ⟨by rfl, ?_⟩) (by assumption) ?_
  rotate_left
  · intro w hSw; (try dsimp only at hSw); first | (go_simp; done) | (go_simp; with_reducible rfl)
  try simp only [Act.put, List.setIfInBounds_toArray, List.set_cons_zero, List.set_cons_succ]
  refine wpAnyH_take (i := 2) (oi := ⟨_, _, _, _, _, _⟩) (v := ?_) rfl (by kernel_rfl) (by kernel_rfl) (by kernel_rfl) (fun _ _ _ h => h) (Or.inl ⟨by rfl, ?_⟩) (by assumption) ?_
  rotate_left
  · intro w hSw; (try dsimp only at hSw); first | (go_simp; done) | (go_simp; with_reducible rfl)
  try simp only [Act.put, List.setIfInBounds_toArray, List.set_cons_zero, List.set_cons_succ]
  refine wpAnyH_take (i := 4) (oi := ⟨_, _, _, _, _, _⟩) (v := ?_) rfl (by kernel_rfl) (by kernel_rfl) (by kernel_rfl) (fun _ _ _ h => h) (Or.inl ⟨by rfl, ?_⟩) (by assumption) ?_
  rotate_left
  · intro w hSw; (try dsimp only at hSw); first | (go_simp; done) | (go_simp; with_reducible rfl)
  try simp only [Act.put, List.setIfInBounds_toArray, List.set_cons_zero, List.set_cons_succ]
  refine wpAnyH_take (i := 5) (oi := ⟨_, _, _, _, _, _⟩) (v := ?_) rfl (by kernel_rfl) (by kernel_rfl) (by kernel_rfl) (fun _ _ _ h => h) (Or.inl ⟨by rfl, ?_⟩) (by assumption) ?_
  rotate_left
  · intro w hSw; (try dsimp only at hSw); first | (go_simp; done) | (go_simp; with_reducible rfl)
  try simp only [Act.put, List.setIfInBounds_toArray, List.set_cons_zero, List.set_cons_succ]
  refine wpAnyH_take (i := 7) (oi := ⟨_, _, _, _, _, _⟩) (v := ?_) rfl (by kernel_rfl) (by kernel_rfl) (by kernel_rfl) (fun _ _ _ h => h) (Or.inl ⟨by rfl, ?_⟩) (by assumption) ?_
  rotate_left
  · intro w hSw; (try dsimp only at hSw); first | (go_simp; done) | (go_simp; with_reducible rfl)
  try simp only [Act.put, List.setIfInBounds_toArray, List.set_cons_zero, List.set_cons_succ]
  refine wpAnyH_take (i := 8) (oi := ⟨_, _, _, _, _, _⟩) (v := ?_) rfl (by kernel_rfl) (by kernel_rfl) (by kernel_rfl) (fun _ _ _ h => h) (Or.inl ⟨by rfl, ?_⟩) (by assumption) ?_
  rotate_left
  · intro w hSw; (try dsimp only at hSw); first | (go_simp; done) | (go_simp; with_reducible rfl)
  try simp only [Act.put, List.setIfInBounds_toArray, List.set_cons_zero, List.set_cons_succ]
  refine wpAnyH_take (i := 10) (oi := ⟨_, _, _, _, _, _⟩) (v := ?_) rfl (by kernel_rfl) (by kernel_rfl) (by kernel_rfl) (fun _ _ _ h => h) (Or.inl ⟨by rfl, ?_⟩) (by assumption) ?_
  rotate_left
  · intro w hSw; (try dsimp only at hSw); first | (go_simp; done) | (go_simp; with_reducible rfl)
  try simp only [Act.put, List.setIfInBounds_toArray, List.set_cons_zero, List.set_cons_succ]
  refine wpAnyH_take (i := 11) (oi := ⟨_, _, _, _, _, _⟩) (v := ?_) rfl (by kernel_rfl) (by kernel_rfl) (by kernel_rfl) (fun _ _ _ h => h) (Or.inl ⟨by rfl, ?_⟩) (by assumption) ?_
  rotate_left
  · intro w hSw; (try dsimp only at hSw); first | (go_simp; done) | (go_simp; with_reducible rfl)
  try simp only [Act.put, List.setIfInBounds_toArray, List.set_cons_zero, List.set_cons_succ]
  refine wpAnyH_ready (rs := [0]) (by kernel_rfl) (by simp) ?_
  refine AllReadyH.cons (o := ⟨_, _, _, _, _, _⟩) rfl (fun K hK => ?_) AllReadyH.nil
  go_simp
  refine any_step (fun we hN => ?_)
  have OE : Hid (OwnS we wz.heap.size (.slice (some ⟨wd.heap.size, 0, none⟩) 0 0) []) := Lib.hid (by rw [hN]; exact own_base (ownS_empty wd) BD.out.size)
  have BE : Hid (Below wz.heap.size wz we) := Lib.hid (by rw [hN]; exact BD.out.alloc BD.out.size _)
  obtain ⟨qb, hqb⟩ : ∃ q, wd.heap.size = q := ⟨_, rfl⟩
  rw [hqb] at OE ⊢
  clear hN hqb BD
  try go_wp2_with fail
  refine hK.out _ _ (by exact HF.out _ (Hid.out (by assumption))) (fun hHeld => ?_)
  clear hK K
  try simp only [Act.put, List.setIfInBounds_toArray, List.set_cons_zero, List.set_cons_succ]
  refine wpAnyH_ready (rs := [3]) (by kernel_rfl) (by simp) ?_
  refine AllReadyH.cons (o := ⟨_, _, _, _, _, _⟩) rfl (fun K hK => ?_) AllReadyH.nil
  have SRC : Hid (Src Try.prog 1 24 (.slice a0 x0.length c0) x0.length (sv x0) we) := Lib.hid (H0.out _ (BZ2.out _ BE.out)).src
  refine step_own_src _ rfl _ _ 24 24 (by rfl) wz.heap.size 9 i0 (.string ByteArray.empty) 1 16 Try.underlying24 hi hz0 hz1 hz2 rfl (by decide) _ _ _ (by rfl) OE.out _ _ _ (by rfl) SRC.out (by unfold maxLen; first | omega | (simp; omega)) (by first | omega | (simp; omega)) BE.out.size ?_
  intro v11 w11 hown hgr
  obtain ⟨X11, hX11⟩ : ∃ X, ([] : List (List UInt8)) ++ x0 = X := ⟨_, rfl⟩
  have O11 : Hid (OwnS w11 wz.heap.size v11 X11) := Lib.hid (by rw [← hX11]; exact ownS_more (by simp) hown)
  have hX11l : X11.length ≤ 1048576 := by rw [← hX11]; simp; omega
  have B11 : Hid (Below wz.heap.size wz w11) := Lib.hid (BE.out.grown hgr.gb BE.out.size (fun q hq => (ownS_lt OE.out q hq).1))
  obtain ⟨s11a, s11c, rfl⟩ := ownS_slice O11.out
  have HX11 := Lib.hid hX11
  clear hown hgr SRC OE BE hX11
  refine hK.out _ _ (by exact HF.out _ (Hid.out (by assumption))) (fun hHeld => ?_)
  clear hK K
  try simp only [Act.put, List.setIfInBounds_toArray, List.set_cons_zero, List.set_cons_succ]
  refine wpAnyH_ready (rs := [6]) (by kernel_rfl) (by simp) ?_
  refine AllReadyH.cons (o := ⟨_, _, _, _, _, _⟩) rfl (fun K hK => ?_) AllReadyH.nil
  have SRC : Hid (Src Try.prog 1 24 (.slice a1 x1.length c1) x1.length (sv x1) w11) := Lib.hid (H1.out _ (BZ2.out _ B11.out)).src
  refine step_own_src _ rfl _ _ 24 24 (by rfl) wz.heap.size 9 i0 (.string ByteArray.empty) 1 16 Try.underlying24 hi hz0 hz1 hz2 rfl (by decide) _ _ _ (by rfl) O11.out _ _ _ (by rfl) SRC.out (by unfold maxLen; first | omega | (simp; omega)) (by first | omega | (simp; omega)) B11.out.size ?_
  intro v12 w12 hown hgr
  obtain ⟨X12, hX12⟩ : ∃ X, X11 ++ x1 = X := ⟨_, rfl⟩
  have O12 : Hid (OwnS w12 wz.heap.size v12 X12) := Lib.hid (by rw [← hX12]; exact ownS_more (by simp) hown)
  have hX12l : X12.length ≤ 2097152 := by rw [← hX12]; simp; omega
  have B12 : Hid (Below wz.heap.size wz w12) := Lib.hid (B11.out.grown hgr.gb B11.out.size (fun q hq => (ownS_lt O11.out q hq).1))
  obtain ⟨s12a, s12c, rfl⟩ := ownS_slice O12.out
  have HX12 := Lib.hid hX12
  clear hown hgr SRC O11 B11 hX12
  refine hK.out _ _ (by exact HF.out _ (Hid.out (by assumption))) (fun hHeld => ?_)
  clear hK K
  try simp only [Act.put, List.setIfInBounds_toArray, List.set_cons_zero, List.set_cons_succ]
  refine wpAnyH_ready (rs := [9]) (by kernel_rfl) (by simp) ?_
  refine AllReadyH.cons (o := ⟨_, _, _, _, _, _⟩) rfl (fun K hK => ?_) AllReadyH.nil
  have SRC : Hid (Src Try.prog 1 24 (.slice b0 y0.length d0) y0.length (sv y0) w12) := Lib.hid (H2.out _ (BZ2.out _ B12.out)).src
  refine step_own_src _ rfl _ _ 24 24 (by rfl) wz.heap.size 9 i0 (.string ByteArray.empty) 1 16 Try.underlying24 hi hz0 hz1 hz2 rfl (by decide) _ _ _ (by rfl) O12.out _ _ _ (by rfl) SRC.out (by unfold maxLen; first | omega | (simp; omega)) (by first | omega | (simp; omega)) B12.out.size ?_
  intro v13 w13 hown hgr
  obtain ⟨X13, hX13⟩ : ∃ X, X12 ++ y0 = X := ⟨_, rfl⟩
  have O13 : Hid (OwnS w13 wz.heap.size v13 X13) := Lib.hid (by rw [← hX13]; exact ownS_more (by simp) hown)
  have hX13l : X13.length ≤ 3145728 := by rw [← hX13]; simp; omega
  have B13 : Hid (Below wz.heap.size wz w13) := Lib.hid (B12.out.grown hgr.gb B12.out.size (fun q hq => (ownS_lt O12.out q hq).1))
  obtain ⟨s13a, s13c, rfl⟩ := ownS_slice O13.out
  have HX13 := Lib.hid hX13
  clear hown hgr SRC O12 B12 hX13
  refine hK.out _ _ (by exact HF.out _ (Hid.out (by assumption))) (fun hHeld => ?_)
  clear hK K
  try simp only [Act.put, List.setIfInBounds_toArray, List.set_cons_zero, List.set_cons_succ]
  refine wpAnyH_ready (rs := [12]) (by kernel_rfl) (by simp) ?_
  refine AllReadyH.cons (o := ⟨_, _, _, _, _, _⟩) rfl (fun K hK => ?_) AllReadyH.nil
  have SRC : Hid (Src Try.prog 1 24 (.slice b1 y1.length d1) y1.length (sv y1) w13) := Lib.hid (H3.out _ (BZ2.out _ B13.out)).src
  refine step_own_src _ rfl _ _ 24 24 (by rfl) wz.heap.size 9 i0 (.string ByteArray.empty) 1 16 Try.underlying24 hi hz0 hz1 hz2 rfl (by decide) _ _ _ (by rfl) O13.out _ _ _ (by rfl) SRC.out (by unfold maxLen; first | omega | (simp; omega)) (by first | omega | (simp; omega)) B13.out.size ?_
  intro v14 w14 hown hgr
  obtain ⟨X14, hX14⟩ : ∃ X, X13 ++ y1 = X := ⟨_, rfl⟩
  have O14 : Hid (OwnS w14 wz.heap.size v14 X14) := Lib.hid (by rw [← hX14]; exact ownS_more (by simp) hown)
  have hX14l : X14.length ≤ 4194304 := by rw [← hX14]; simp; omega
  have B14 : Hid (Below wz.heap.size wz w14) := Lib.hid (B13.out.grown hgr.gb B13.out.size (fun q hq => (ownS_lt O13.out q hq).1))
  obtain ⟨s14a, s14c, rfl⟩ := ownS_slice O14.out
  have HX14 := Lib.hid hX14
  clear hown hgr SRC O13 B13 hX14
  refine hK.out _ _ (by exact HF.out _ (Hid.out (by assumption))) (fun hHeld => ?_)
  clear hK K
  try simp only [Act.put, List.setIfInBounds_toArray, List.set_cons_zero, List.set_cons_succ]
  refine wpAnyH_take (i := 13) (oi := ⟨_, _, _, _, _, _⟩) (v := ?_) rfl (by kernel_rfl) (by kernel_rfl) (by kernel_rfl) (fun _ _ _ h => h) (Or.inl ⟨by rfl, ?_⟩) (by assumption) ?_
  rotate_left
  · intro w hSw; (try dsimp only at hSw); first | (go_simp; done) | (go_simp; with_reducible rfl)
  try simp only [Act.put, List.setIfInBounds_toArray, List.set_cons_zero, List.set_cons_succ]
  refine wpAnyH_done (by kernel_rfl) ?_ _
  clear hHeld
  go_wp2_with fail
  have HA := Lib.hid (fun n => (ownS_c O14.out).kept (S' := fun k => wz.heap.size ≤ k ∧ k < w14.heap.size) (w' := w14.drewN n) (fun k hk => ⟨hk, rfl⟩))
  have HQ : Hid (x0 ++ x1 ++ y0 ++ y1 = X14) := Lib.hid (by rw [← HX14.out, ← HX13.out, ← HX12.out, ← HX11.out]; rfl)
  clear HX11 HX12 HX13 HX14
  go_loopw [31] (fun i wr => ∃ k n : Nat, k ≤ X14.length ∧ i = .int .i64 k ∧ Hid (m ∉ X14.take k) ∧ wr = w14.drewN n) (fun i _ => X14.length - (intOf i).toNat)
  case atStart => exact ⟨0, 0, Nat.zero_le _, rfl, Lib.hid (by simp), rfl⟩
  case round =>
    obtain ⟨k, n, hk, rfl, hne, rfl⟩ := hrel
    by_cases hlt : k < X14.length
    · obtain ⟨ga, oa, rfl, _, _, _, hxa⟩ := (HA.out n).at (by omega)
      have e1 := hxa k hlt
      have HT : Hid (X14.getD k [] ≠ m → m ∉ X14.take (k + 1)) := Lib.hid (fun h e => by
        rw [take_snoc (d := []) hlt] at e
        rcases List.mem_append.1 e with e | e
        · exact hne.out e
        · exact h (List.mem_singleton.1 e).symm)
      generalize X14.getD k [] = s at *
      clear hxa hne
      by_cases hs : s = m
      · have gx : (s == m) = true := by rw [hs]; simp
        clear hs
        go_wp2_with fail
        go_ret
        exact ⟨rfl, by rw [HPA.out]; exact BZ2.out _ (B14.out.trans (drewn _ _ _))⟩
      · have gx : (s == m) = false := by simpa using hs
        have HT2 := Lib.hid (HT.out hs)
        clear hs HT
        go_wp2_with fail
        go_roundw
        case rel => exact ⟨k + 1, n, by omega, by go_num, HT2, rfl⟩
        case measure => simp [intOf]; omega
    · have HM : Hid (m ∉ X14) := Lib.hid (by have h := hne.out; rwa [List.take_of_length_le (by omega)] at h)
      have hBQ := B14.out.trans (drewn _ w14 n)
      have BQ := Lib.hid hBQ
      clear hne hBQ
      generalize w14.drewN n = wq at *
      by_cases hbig : X14.length ≤ 300
      · have hsum : x0.length + x1.length + y0.length + y1.length ≤ 300 := by rw [← HQ.out] at hbig; simp at hbig; omega
        obtain ⟨t1, t2⟩ := HAP.out (by rw [HQ.out]; exact HM.out)
        have T1 := Lib.hid t1
        have T2 := Lib.hid t2
        clear t1 t2 HAP HM HQ
        go_upto_region 12 with fail
        have BD : Hid (Below wz.heap.size wz wq.drew) := Lib.hid (BQ.out.trans (drewn _ wq 1))
        refine wp_region_held_drew (S := (fun W => W.cell? ⟨pa, 0, none⟩ = some (.slice a0 x0.length c0) ∧ W.cell? ⟨pa, 1, none⟩ = some (.slice a1 x1.length c1) ∧ W.cell? ⟨pb, 0, none⟩ = some (.slice b0 y0.length d0) ∧ W.cell? ⟨pb, 1, none⟩ = some (.slice b1 y1.length d1))) (by kernel_rfl) (by exact HF.out _ (Hid.out (by assumption))) (fun hHeld => ?_)
        clear BQ
        generalize wq.drew = wd at *
        refine wpAnyH_take (i := 0) (oi := ⟨_, _, _, _, _, _⟩) (v := ?_) rfl (by kernel_rfl) (by kernel_rfl) (by kernel_rfl) (fun _ _ _ h => h) (Or.inl ⟨by rfl, ?_⟩) (by assumption) ?_
        rotate_left
        · intro w hSw; (try dsimp only at hSw); first | (go_simp; done) | (go_simp; with_reducible rfl)
        try simp only [Act.put, List.setIfInBounds_toArray, List.set_cons_zero, List.set_cons_succ]
        refine wpAnyH_take (i := 1) (oi := ⟨_, _, _, _, _, _⟩) (v := ?_) rfl (by kernel_rfl) (by kernel_rfl) (by kernel_rfl) (fun _ _ _ h => h) (Or.inl ⟨by rfl, ?_⟩) (by assumption) ?_
        rotate_left
        · intro w hSw; (try dsimp only at hSw); first | (go_simp; done) | (go_simp; with_reducible rfl)
        try simp only [Act.put, List.setIfInBounds_toArray, List.set_cons_zero, List.set_cons_succ]
        refine wpAnyH_take (i := 2) (oi := ⟨_, _, _, _, _, _⟩) (v := ?_) rfl (by kernel_rfl) (by kernel_rfl) (by kernel_rfl) (fun _ _ _ h => h) (Or.inl ⟨by rfl, ?_⟩) (by assumption) ?_
        rotate_left
        · intro w hSw; (try dsimp only at hSw); first | (go_simp; done) | (go_simp; with_reducible rfl)
        try simp only [Act.put, List.setIfInBounds_toArray, List.set_cons_zero, List.set_cons_succ]
        refine wpAnyH_take (i := 3) (oi := ⟨_, _, _, _, _, _⟩) (v := ?_) rfl (by kernel_rfl) (by kernel_rfl) (by kernel_rfl) (fun _ _ _ h => h) (Or.inl ⟨by rfl, ?_⟩) (by assumption) ?_
        rotate_left
        · intro w hSw; (try dsimp only at hSw); first | (go_simp; done) | (go_simp; with_reducible rfl)
        try simp only [Act.put, List.setIfInBounds_toArray, List.set_cons_zero, List.set_cons_succ]
        refine wpAnyH_take (i := 4) (oi := ⟨_, _, _, _, _, _⟩) (v := ?_) rfl (by kernel_rfl) (by kernel_rfl) (by kernel_rfl) (fun _ _ _ h => h) (Or.inl ⟨by rfl, ?_⟩) (by assumption) ?_
        rotate_left
        · intro w hSw; (try dsimp only at hSw); first | (go_simp; done) | (go_simp; with_reducible rfl)
        try simp only [Act.put, List.setIfInBounds_toArray, List.set_cons_zero, List.set_cons_succ]
        refine wpAnyH_take (i := 6) (oi := ⟨_, _, _, _, _, _⟩) (v := ?_) rfl (by kernel_rfl) (by kernel_rfl) (by kernel_rfl) (fun _ _ _ h => h) (Or.inl ⟨by rfl, ?_⟩) (by assumption) ?_
        rotate_left
        · intro w hSw; (try dsimp only at hSw); first | (go_simp; done) | (go_simp; with_reducible rfl)
        try simp only [Act.put, List.setIfInBounds_toArray, List.set_cons_zero, List.set_cons_succ]
        refine wpAnyH_take (i := 7) (oi := ⟨_, _, _, _, _, _⟩) (v := ?_) rfl (by kernel_rfl) (by kernel_rfl) (by kernel_rfl) (fun _ _ _ h => h) (Or.inl ⟨by rfl, ?_⟩) (by assumption) ?_
        rotate_left
        · intro w hSw; (try dsimp only at hSw); first | (go_simp; done) | (go_simp; with_reducible rfl)
        try simp only [Act.put, List.setIfInBounds_toArray, List.set_cons_zero, List.set_cons_succ]
        refine wpAnyH_take (i := 8) (oi := ⟨_, _, _, _, _, _⟩) (v := ?_) rfl (by kernel_rfl) (by kernel_rfl) (by kernel_rfl) (fun _ _ _ h => h) (Or.inl ⟨by rfl, ?_⟩) (by assumption) ?_
        rotate_left
        · intro w hSw; (try dsimp only at hSw); first | (go_simp; done) | (go_simp; with_reducible rfl)
        try simp only [Act.put, List.setIfInBounds_toArray, List.set_cons_zero, List.set_cons_succ]
        refine wpAnyH_take (i := 9) (oi := ⟨_, _, _, _, _, _⟩) (v := ?_) rfl (by kernel_rfl) (by kernel_rfl) (by kernel_rfl) (fun _ _ _ h => h) (Or.inl ⟨by rfl, ?_⟩) (by assumption) ?_
        rotate_left
        · intro w hSw; (try dsimp only at hSw); first | (go_simp; done) | (go_simp; with_reducible rfl)
        try simp only [Act.put, List.setIfInBounds_toArray, List.set_cons_zero, List.set_cons_succ]
        refine wpAnyH_take (i := 10) (oi := ⟨_, _, _, _, _, _⟩) (v := ?_) rfl (by kernel_rfl) (by kernel_rfl) (by kernel_rfl) (fun _ _ _ h => h) (Or.inl ⟨by rfl, ?_⟩) (by assumption) ?_
        rotate_left
        · intro w hSw; (try dsimp only at hSw); first | (go_simp; done) | (go_simp; with_reducible rfl)
        try simp only [Act.put, List.setIfInBounds_toArray, List.set_cons_zero, List.set_cons_succ]
        refine wpAnyH_take (i := 12) (oi := ⟨_, _, _, _, _, _⟩) (v := ?_) rfl (by kernel_rfl) (by kernel_rfl) (by kernel_rfl) (fun _ _ _ h => h) (Or.inl ⟨by rfl, ?_⟩) (by assumption) ?_
        rotate_left
        · intro w hSw; (try dsimp only at hSw); first | (go_simp; done) | (go_simp; with_reducible rfl)
        try simp only [Act.put, List.setIfInBounds_toArray, List.set_cons_zero, List.set_cons_succ]
        refine wpAnyH_take (i := 13) (oi := ⟨_, _, _, _, _, _⟩) (v := ?_) rfl (by kernel_rfl) (by kernel_rfl) (by kernel_rfl) (fun _ _ _ h => h) (Or.inl ⟨by rfl, ?_⟩) (by assumption) ?_
        rotate_left
        · intro w hSw; (try dsimp only at hSw); first | (go_simp; done) | (go_simp; with_reducible rfl)
        try simp only [Act.put, List.setIfInBounds_toArray, List.set_cons_zero, List.set_cons_succ]
        refine wpAnyH_take (i := 14) (oi := ⟨_, _, _, _, _, _⟩) (v := ?_) rfl (by kernel_rfl) (by kernel_rfl) (by kernel_rfl) (fun _ _ _ h => h) (Or.inl ⟨by rfl, ?_⟩) (by assumption) ?_
        rotate_left
        · intro w hSw; (try dsimp only at hSw); first | (go_simp; done) | (go_simp; with_reducible rfl)
        try simp only [Act.put, List.setIfInBounds_toArray, List.set_cons_zero, List.set_cons_succ]
        refine wpAnyH_take (i := 15) (oi := ⟨_, _, _, _, _, _⟩) (v := ?_) rfl (by kernel_rfl) (by kernel_rfl) (by kernel_rfl) (fun _ _ _ h => h) (Or.inl ⟨by rfl, ?_⟩) (by assumption) ?_
        rotate_left
        · intro w hSw; (try dsimp only at hSw); first | (go_simp; done) | (go_simp; with_reducible rfl)
        try simp only [Act.put, List.setIfInBounds_toArray, List.set_cons_zero, List.set_cons_succ]
        refine wpAnyH_take (i := 16) (oi := ⟨_, _, _, _, _, _⟩) (v := ?_) rfl (by kernel_rfl) (by kernel_rfl) (by kernel_rfl) (fun _ _ _ h => h) (Or.inl ⟨by rfl, ?_⟩) (by assumption) ?_
        rotate_left
        · intro w hSw; (try dsimp only at hSw); first | (go_simp; done) | (go_simp; with_reducible rfl)
        try simp only [Act.put, List.setIfInBounds_toArray, List.set_cons_zero, List.set_cons_succ]
        refine wpAnyH_ready (rs := [5]) (by kernel_rfl) (by simp) ?_
        refine AllReadyH.cons (o := ⟨_, _, _, _, _, _⟩) rfl (fun K hK => ?_) AllReadyH.nil
        go_simp
        refine (three_any _ _ _ _ x0 y0 m wd (fun k hk => by have := BD.out.size; omega) (fun k hk => by have := BD.out.size; omega) (H0.out _ (BZ2.out _ BD.out)) (H2.out _ (BZ2.out _ BD.out)) (by omega) (by omega)).mono ?_
        rintro e wt1 ⟨u1, rfl, ho, hb⟩
        have C1 : Hid (Below wz.heap.size wz wt1) := Lib.hid (BD.out.trans (hb.mono BD.out.size))
        obtain ⟨L1, hL1⟩ : ∃ L, x0 ++ m :: y0 = L := ⟨_, rfl⟩
        rw [hL1] at ho
        have hL1l : L1.length ≤ 301 := by rw [← hL1]; simp; omega
        have Y1 : Hid (∃ S : Nat → Prop, StrsC S wt1 u1 L1 ∧ ∀ k, S k → k < wt1.heap.size) := Lib.hid ⟨_, ownS_c ho, fun k hk => hk.2⟩
        obtain ⟨u1a, u1c, rfl⟩ := ownS_slice ho
        have E1 := Lib.hid hL1
        clear ho hb hL1 BD
        try go_wp2_with fail
        refine hK.out _ _ (by exact HF.out _ (Hid.out (by assumption))) (fun hHeld => ?_)
        clear hK K
        try simp only [Act.put, List.setIfInBounds_toArray, List.set_cons_zero, List.set_cons_succ]
        refine wpAnyH_ready (rs := [11]) (by kernel_rfl) (by simp) ?_
        refine AllReadyH.cons (o := ⟨_, _, _, _, _, _⟩) rfl (fun K hK => ?_) AllReadyH.nil
        go_simp
        refine (three_any _ _ _ _ x1 y0 m wt1 (fun k hk => by have := C1.out.size; omega) (fun k hk => by have := C1.out.size; omega) (H1.out _ (BZ2.out _ C1.out)) (H2.out _ (BZ2.out _ C1.out)) (by omega) (by omega)).mono ?_
        rintro e wt2 ⟨u2, rfl, ho, hb⟩
        have C2 : Hid (Below wz.heap.size wz wt2) := Lib.hid (C1.out.trans (hb.mono C1.out.size))
        obtain ⟨L2, hL2⟩ : ∃ L, x1 ++ m :: y0 = L := ⟨_, rfl⟩
        rw [hL2] at ho
        have hL2l : L2.length ≤ 301 := by rw [← hL2]; simp; omega
        have Y2 : Hid (∃ S : Nat → Prop, StrsC S wt2 u2 L2 ∧ ∀ k, S k → k < wt2.heap.size) := Lib.hid ⟨_, ownS_c ho, fun k hk => hk.2⟩
        have Y1' : Hid (∃ S : Nat → Prop, StrsC S wt2 (.slice u1a L1.length u1c) L1 ∧ ∀ k, S k → k < wt2.heap.size) := Lib.hid (by obtain ⟨S, h, hk⟩ := Y1.out; exact ⟨S, h.kept (fun k hS => ⟨hS, hb.block k (hk k hS)⟩), fun k hS => Nat.lt_of_lt_of_le (hk k hS) hb.size⟩)
        clear Y1
        have Y1 := Y1'
        clear Y1'
        obtain ⟨u2a, u2c, rfl⟩ := ownS_slice ho
        have E2 := Lib.hid hL2
        clear ho hb hL2 C1
        try go_wp2_with fail
        refine hK.out _ _ (by exact HF.out _ (Hid.out (by assumption))) (fun hHeld => ?_)
        clear hK K
        try simp only [Act.put, List.setIfInBounds_toArray, List.set_cons_zero, List.set_cons_succ]
        refine wpAnyH_ready (rs := [17]) (by kernel_rfl) (by simp) ?_
        refine AllReadyH.cons (o := ⟨_, _, _, _, _, _⟩) rfl (fun K hK => ?_) AllReadyH.nil
        go_simp
        refine (three_any _ _ _ _ x0 y1 m wt2 (fun k hk => by have := C2.out.size; omega) (fun k hk => by have := C2.out.size; omega) (H0.out _ (BZ2.out _ C2.out)) (H3.out _ (BZ2.out _ C2.out)) (by omega) (by omega)).mono ?_
        rintro e wt3 ⟨u3, rfl, ho, hb⟩
        have C3 : Hid (Below wz.heap.size wz wt3) := Lib.hid (C2.out.trans (hb.mono C2.out.size))
        obtain ⟨L3, hL3⟩ : ∃ L, x0 ++ m :: y1 = L := ⟨_, rfl⟩
        rw [hL3] at ho
        have hL3l : L3.length ≤ 301 := by rw [← hL3]; simp; omega
        have Y3 : Hid (∃ S : Nat → Prop, StrsC S wt3 u3 L3 ∧ ∀ k, S k → k < wt3.heap.size) := Lib.hid ⟨_, ownS_c ho, fun k hk => hk.2⟩
        have Y1' : Hid (∃ S : Nat → Prop, StrsC S wt3 (.slice u1a L1.length u1c) L1 ∧ ∀ k, S k → k < wt3.heap.size) := Lib.hid (by obtain ⟨S, h, hk⟩ := Y1.out; exact ⟨S, h.kept (fun k hS => ⟨hS, hb.block k (hk k hS)⟩), fun k hS => Nat.lt_of_lt_of_le (hk k hS) hb.size⟩)
        clear Y1
        have Y1 := Y1'
        clear Y1'
        have Y2' : Hid (∃ S : Nat → Prop, StrsC S wt3 (.slice u2a L2.length u2c) L2 ∧ ∀ k, S k → k < wt3.heap.size) := Lib.hid (by obtain ⟨S, h, hk⟩ := Y2.out; exact ⟨S, h.kept (fun k hS => ⟨hS, hb.block k (hk k hS)⟩), fun k hS => Nat.lt_of_lt_of_le (hk k hS) hb.size⟩)
        clear Y2
        have Y2 := Y2'
        clear Y2'
        obtain ⟨u3a, u3c, rfl⟩ := ownS_slice ho
        have E3 := Lib.hid hL3
        clear ho hb hL3 C2
        try go_wp2_with fail
        refine hK.out _ _ (by exact HF.out _ (Hid.out (by assumption))) (fun hHeld => ?_)
        clear hK K
        try simp only [Act.put, List.setIfInBounds_toArray, List.set_cons_zero, List.set_cons_succ]
        refine wpAnyH_ready (rs := [18]) (by kernel_rfl) (by simp) ?_
        refine AllReadyH.cons (o := ⟨_, _, _, _, _, _⟩) rfl (fun K hK => ?_) AllReadyH.nil
        go_simp
        obtain ⟨S1, k1, r1⟩ := Y1.out
        obtain ⟨S2, k2, r2⟩ := Y2.out
        obtain ⟨S3, k3, r3⟩ := Y3.out
        refine (merge_any S1 S2 S3 _ _ _ L1 L2 L3 wt3 r1 r2 r3 k1 k2 k3 (by omega) (by omega) (by omega) (by rw [← E1.out]; exact Z0.out) (by rw [← E2.out]; exact Z1.out) (by rw [← E3.out]; exact Z2.out) (small_mul (by omega) (by omega)) (small_mul (by omega) (by omega))).mono ?_
        intro e w5 g5
        obtain ⟨a5, c5, rfl, hp5, hb5⟩ := g5.open
        have B5 : Hid (Below wz.heap.size wz w5) := Lib.hid (C3.out.trans (hb5.mono C3.out.size))
        have P5 := Lib.hid hp5
        clear k1 k2 k3 r1 r2 r3 Y1 Y2 Y3 g5 hp5 hb5 C3
        try go_wp2_with fail
        refine hK.out _ _ (by exact HF.out _ (Hid.out (by assumption))) (fun hHeld => ?_)
        clear hK K
        try simp only [Act.put, List.setIfInBounds_toArray, List.set_cons_zero, List.set_cons_succ]
        refine wpAnyH_take (i := 19) (oi := ⟨_, _, _, _, _, _⟩) (v := ?_) rfl (by kernel_rfl) (by kernel_rfl) (by kernel_rfl) (fun _ _ _ h => h) (Or.inl ⟨by rfl, ?_⟩) (by assumption) ?_
        rotate_left
        · intro w hSw; (try dsimp only at hSw); first | (go_simp; done) | (go_simp; with_reducible rfl)
        try simp only [Act.put, List.setIfInBounds_toArray, List.set_cons_zero, List.set_cons_succ]
        refine wpAnyH_take (i := 20) (oi := ⟨_, _, _, _, _, _⟩) (v := ?_) rfl (by kernel_rfl) (by kernel_rfl) (by kernel_rfl) (fun _ _ _ h => h) (Or.inl ⟨by rfl, ?_⟩) (by assumption) ?_
        rotate_left
        · intro w hSw; (try dsimp only at hSw); first | (go_simp; done) | (go_simp; with_reducible rfl)
        try simp only [Act.put, List.setIfInBounds_toArray, List.set_cons_zero, List.set_cons_succ]
        refine wpAnyH_take (i := 21) (oi := ⟨_, _, _, _, _, _⟩) (v := ?_) rfl (by kernel_rfl) (by kernel_rfl) (by kernel_rfl) (fun _ _ _ h => h) (Or.inl ⟨by rfl, ?_⟩) (by assumption) ?_
        rotate_left
        · intro w hSw; (try dsimp only at hSw); first | (go_simp; done) | (go_simp; with_reducible rfl)
        try simp only [Act.put, List.setIfInBounds_toArray, List.set_cons_zero, List.set_cons_succ]
        refine wpAnyH_take (i := 22) (oi := ⟨_, _, _, _, _, _⟩) (v := ?_) rfl (by kernel_rfl) (by kernel_rfl) (by kernel_rfl) (fun _ _ _ h => h) (Or.inl ⟨by rfl, ?_⟩) (by assumption) ?_
        rotate_left
        · intro w hSw; (try dsimp only at hSw); first | (go_simp; done) | (go_simp; with_reducible rfl)
        try simp only [Act.put, List.setIfInBounds_toArray, List.set_cons_zero, List.set_cons_succ]
        refine wpAnyH_take (i := 23) (oi := ⟨_, _, _, _, _, _⟩) (v := ?_) rfl (by kernel_rfl) (by kernel_rfl) (by kernel_rfl) (fun _ _ _ h => h) (Or.inl ⟨by rfl, ?_⟩) (by assumption) ?_
        rotate_left
        · intro w hSw; (try dsimp only at hSw); first | (go_simp; done) | (go_simp; with_reducible rfl)
        try simp only [Act.put, List.setIfInBounds_toArray, List.set_cons_zero, List.set_cons_succ]
        refine wpAnyH_done (by kernel_rfl) ?_ _
        clear hHeld
        rw [E1.out, E2.out, E3.out] at T1 T2
        have HZ0 := Lib.hid (show ∀ x ∈ L1, x.length ≤ 4194304 by rw [← E1.out]; exact Z0.out)
        have HZ1 := Lib.hid (show ∀ x ∈ L2, x.length ≤ 4194304 by rw [← E2.out]; exact Z1.out)
        have HZ2 := Lib.hid (show ∀ x ∈ L3, x.length ≤ 4194304 by rw [← E3.out]; exact Z2.out)
        obtain ⟨M, hM⟩ : ∃ M, mergeN L1 L2 L3 = M := ⟨_, rfl⟩
        rw [hM] at T1 T2 P5
        rw [hM]
        have HMM := Lib.hid hM.symm
        clear E1 E2 E3 Z0 Z1 Z2 hM
        go_wp2_with fail
        refine (aw_bound HMM.out P5.out (fun k hk => hk.2) (by omega) HZ0.out HZ1.out HZ2.out [108] [114] (by decide) (by decide)).mono ?_
        rintro e w6 ⟨v6, rfl, ho6, hb6⟩
        rw [T1.out] at ho6
        rw [T2.out]
        have B6 := Lib.hid (B5.out.trans (hb6.mono B5.out.size))
        have O6 := Lib.hid (ownS_c ho6)
        obtain ⟨a6, c6, rfl⟩ := ownS_slice ho6
        obtain ⟨f0, f1, f2, f3⟩ := HF.out _ B6.out
        obtain ⟨RL, hRL⟩ : ∃ L, x1 ++ m :: y1 = L := ⟨_, rfl⟩
        have HRL := Lib.hid hRL
        have hRLl : RL.length ≤ 301 := by rw [← hRL]; simp; omega
        rw [hRL] at O6 ⊢
        clear ho6 hb6 T1 T2 P5 HMM HZ0 HZ1 HZ2 B5 hRL
        go_wp2_with fail
        refine (three_any _ _ _ _ x1 y1 m w6 (fun k hk => by have := B6.out.size; omega) (fun k hk => by have := B6.out.size; omega) (H1.out _ (BZ2.out _ B6.out)) (H3.out _ (BZ2.out _ B6.out)) (by omega) (by omega)).mono ?_
        rintro e w7 ⟨v7, rfl, ho7, hb7⟩
        rw [HRL.out] at ho7
        have B7 := Lib.hid (B6.out.trans (hb7.mono B6.out.size))
        have O67 := Lib.hid (O6.out.kept (S' := fun k => k < w6.heap.size) (w' := w7) (fun k hk => ⟨hk.2, hb7.block k hk.2⟩))
        have O7 := Lib.hid (ownS_c ho7)
        obtain ⟨a7, c7, rfl⟩ := ownS_slice ho7
        clear ho7 hb7 O6 f0 f1 f2 f3
        go_wp2_with fail
        refine (same_yes _ _ _ _ RL RL w7 O67.out O7.out (by omega) (by omega) rfl).mono ?_
        rintro e w8 ⟨rfl, n8, rfl⟩
        go_wp2_with fail
        go_ret
        exact ⟨rfl, by rw [HPA.out]; exact BZ2.out _ (B7.out.trans (drewn _ w7 n8))⟩
      · go_wp2_with fail
        go_ret
        exact ⟨rfl, by rw [HPA.out]; exact BZ2.out _ BQ.out⟩
end Go.Proofs.Ytfiogjdjcocbnaa
