/- The law through the layers: the chunks behind a place. -/
import Derived.Test.YteijekhmgedhoaaDoorChkA
import Derived.Test.YteijekhmgedhoaaDoorShaR
import Derived.Deep.RegionHeld3
import Derived.Test.YteijekhmgedhoaaDoorStep
import Derived.Lib.SlBytesConst
namespace Go.Proofs.YteijekhmgedhoaaDoor
open Go.RowKit Go.Maps

def TrueC (w : World) (e : Ending) (w' : World) : Prop := e = .returned (.bool true) ∧ Below w.heap.size w w'
theorem any_stepC {K : Act → World → Prop} {a : Act} {w : World} (h : ∀ w1, w1 = w → K a w1) : K a w := h _ rfl
theorem slice_from (a : Addr) (n c lo : Nat) (h1 : lo ≤ n) (_h2 : n ≤ c) : ∃ a' c', ∀ W, (Instr.sliceAt 50 (.slice (some a) n c) (some (.int .i64 (lo : Int))) none none).run Tryd.prog W = .ok (.slice a' (n - lo) c') W := by
  have ht : Tryd.prog.underlying 50 = some (.slice (Tryd.prog.elem 50)) := by kernel_rfl
  have hs : ∀ W, (sizeOf (Tryd.prog.elem 50)).run Tryd.prog W = .ok 1 W := fun W => by kernel_rfl
  refine ⟨if c = lo then some a else (some a).map (·.add (lo * 1)), c - lo, fun W => ?_⟩
  rw [run_sliceAt_slice W _ _ _ _ _ ht, run_slice_l W _ _ _ _ ht _ _ (by omega) (by omega), hs]
  simp [sliced, Result.andThen]
theorem par_cells {w w' : World} {b : Nat} {x y z : Value} {t : TypeId} (h : w.heap[b]? = some (.cells #[x, y, z] t (0, 0))) (hk : w'.heap[b]? = w.heap[b]?) : w'.cell? ⟨b, 0, none⟩ = some x ∧ w'.cell? ⟨b, 1, none⟩ = some y ∧ w'.cell? ⟨b, 2, none⟩ = some z := by
  have h2 := hk.trans h
  exact ⟨by rw [cell_of_row _ _ _ _ _ _ h2]; rfl, by rw [cell_of_row _ _ _ _ _ _ h2]; rfl, by rw [cell_of_row _ _ _ _ _ _ h2]; rfl⟩
set_option maxRecDepth 100000 in
set_option maxHeartbeats 8000000 in
theorem wchunks_law (va vb vr : Value) (a b r : List UInt8) (w : World) (ha : BytesC (fun k => k < w.heap.size) w va a) (hb : BytesC (fun k => k < w.heap.size) w vb b) (hr : BytesC (fun k => k < w.heap.size) w vr r) (hl : a.length + b.length + r.length ≤ 1048576) (hE : Env w) :
    Calls Tryd.prog 10 #[va, vb, vr] w (TrueC w) := by
  unfold TrueC
  have HA := Lib.hid (fun (W : World) (h : Below w.heap.size w W) => ha.kept (S' := fun k => k < W.heap.size) (w' := W) (fun k hk => ⟨Nat.lt_of_lt_of_le hk h.size, h.block k hk⟩))
  have HB := Lib.hid (fun (W : World) (h : Below w.heap.size w W) => hb.kept (S' := fun k => k < W.heap.size) (w' := W) (fun k hk => ⟨Nat.lt_of_lt_of_le hk h.size, h.block k hk⟩))
  have HR := Lib.hid (fun (W : World) (h : Below w.heap.size w W) => hr.kept (S' := fun k => k < W.heap.size) (w' := W) (fun k hk => ⟨Nat.lt_of_lt_of_le hk h.size, h.block k hk⟩))
  have HEV := Lib.hid (fun (W : World) (h : Below w.heap.size w W) => hE.on h)
  obtain ⟨aa, ac, rfl⟩ := ha.shape
  obtain ⟨ba, bc, rfl⟩ := hb.shape
  obtain ⟨ra, rc, rfl⟩ := hr.shape
  have hal : a.length ≤ 1048576 := by omega
  have hbl : b.length ≤ 1048576 := by omega
  have hrl : r.length ≤ 1048576 := by omega
  have HX1 : Hid ((chunksL 2 40 3 (a ++ r)).flatten = a ++ r) := Lib.hid (chunks_flat 2 40 3 _ _ (Nat.le_refl _))
  have HY1 : Hid ((chunksL 2 40 3 (b ++ r)).flatten = b ++ r) := Lib.hid (chunks_flat 2 40 3 _ _ (Nat.le_refl _))
  have HX2 : Hid (∀ c ∈ chunksL 2 40 3 (a ++ r), c ≠ [] ∧ c.length ≤ 2097152) := Lib.hid (fun c hc => by have h := chunks_ne 2 40 3 _ _ (Nat.le_refl _) c hc; exact ⟨h.1, by have := h.2; simp at this; omega⟩)
  have HY2 : Hid (∀ c ∈ chunksL 2 40 3 (b ++ r), c ≠ [] ∧ c.length ≤ 2097152) := Lib.hid (fun c hc => by have h := chunks_ne 2 40 3 _ _ (Nat.le_refl _) c hc; exact ⟨h.1, by have := h.2; simp at this; omega⟩)
  have HZ1 : Hid ((chunksL 2 40 3 [97, 98, 99]).flatten = [97, 98, 99]) := Lib.hid (chunks_flat 2 40 3 _ _ (Nat.le_refl _))
  have HXC : Hid ((chunksL 2 40 3 (a ++ r)).length ≤ 2097152) := Lib.hid (by have := chunks_count 2 40 3 (a ++ r); simp at this; omega)
  have HYC : Hid ((chunksL 2 40 3 (b ++ r)).length ≤ 2097152) := Lib.hid (by have := chunks_count 2 40 3 (b ++ r); simp at this; omega)
  have HSAME := Lib.hid (fun i k hi hk z h1 h2 => chunks_same a b r i k hi hk z h1 h2)
  have W0 : Hid (Below w.heap.size w (w.alloc (.cells #[.int .i64 2, .int .i64 40, .int .i64 3] 49))) := Lib.hid ((Below.refl _ w).alloc (Nat.le_refl _) _)
  have HP : Hid (∀ W : World, Below (w.alloc (.cells #[.int .i64 2, .int .i64 40, .int .i64 3] 49)).heap.size (w.alloc (.cells #[.int .i64 2, .int .i64 40, .int .i64 3] 49)) W → W.cell? ⟨w.heap.size, 0, none⟩ = some (.int .i64 2) ∧ W.cell? ⟨w.heap.size, 1, none⟩ = some (.int .i64 40) ∧ W.cell? ⟨w.heap.size, 2, none⟩ = some (.int .i64 3)) := Lib.hid (fun W h => par_cells (new_five w _ _) (h.block _ (by simp)))
  clear ha hb hr hl hE
  go_enter Tryd.func10, Tryd.ntmps10
  go_upto_region 2 with fail
  generalize w.alloc (.cells #[.int .i64 2, .int .i64 40, .int .i64 3] 49) = wp at *
  have HW : Hid (∀ W : World, Below wp.heap.size wp W → Below w.heap.size w W) := Lib.hid (fun W h => W0.out.trans (h.mono W0.out.size))
  obtain ⟨pb, hpb⟩ : ∃ pb, w.heap.size = pb := ⟨_, rfl⟩
  rw [hpb] at HP ⊢
  have HF : Hid (∀ W : World, Below wp.heap.size wp W → W.cell? ⟨pb, 0, none⟩ = some (.int .i64 2) ∧ W.cell? ⟨pb, 1, none⟩ = some (.int .i64 40) ∧ W.cell? ⟨pb, 2, none⟩ = some (.int .i64 3)) := HP
  have HPB := Lib.hid hpb
  clear HP W0 hpb
  have BD : Hid (Below wp.heap.size wp wp.drew) := Lib.hid (below_drewN _ wp 1)
  refine wp_region_held_drew (S := (fun W => W.cell? ⟨pb, 0, none⟩ = some (.int .i64 2) ∧ W.cell? ⟨pb, 1, none⟩ = some (.int .i64 40) ∧ W.cell? ⟨pb, 2, none⟩ = some (.int .i64 3))) (by kernel_rfl) (by exact HF.out _ (Hid.out (by assumption))) (fun hHeld => ?_)
  obtain ⟨wd, hwd⟩ : ∃ W, wp.drew = W := ⟨_, rfl⟩
  rw [hwd] at BD hHeld ⊢
  clear hwd
  refine wpAnyH_take (i := 0) (oi := ⟨_, _, _, _, _, _⟩) (v := ?_) rfl (by kernel_rfl) (by kernel_rfl) (by kernel_rfl) (fun _ _ _ h => h) (Or.inl ⟨by rfl, ?_⟩) (by assumption) ?_
  rotate_left
  · intro w hSw; (try dsimp only at hSw); first | (go_simp; done) | (go_simp; with_reducible rfl)
  try simp only [Act.put, List.setIfInBounds_toArray, List.set_cons_zero, List.set_cons_succ]
  refine wpAnyH_take (i := 1) (oi := ⟨_, _, _, _, _, _⟩) (v := ?_) rfl (by kernel_rfl) (by kernel_rfl) (by kernel_rfl) (fun _ _ _ h => h) (Or.inl ⟨by rfl, ?_⟩) (by assumption) ?_
  rotate_left
  · intro w hSw; (try dsimp only at hSw); first | (go_simp; done) | (go_simp; with_reducible rfl)
  try simp only [Act.put, List.setIfInBounds_toArray, List.set_cons_zero, List.set_cons_succ]
  refine wpAnyH_take (i := 4) (oi := ⟨_, _, _, _, _, _⟩) (v := ?_) rfl (by kernel_rfl) (by kernel_rfl) (by kernel_rfl) (fun _ _ _ h => h) (Or.inl ⟨by rfl, ?_⟩) (by assumption) ?_
  rotate_left
  · intro w hSw; (try dsimp only at hSw); first | (go_simp; done) | (go_simp; with_reducible rfl)
  try simp only [Act.put, List.setIfInBounds_toArray, List.set_cons_zero, List.set_cons_succ]
  refine wpAnyH_ready (rs := [2]) (by kernel_rfl) (by simp) ?_
  refine AllReadyH.cons (o := ⟨_, _, _, _, _, _⟩) rfl (fun K hK => ?_) AllReadyH.nil
  go_simp
  refine any_stepC (fun wa1 hN => ?_)
  have BA1 : Hid (Below wp.heap.size wp wa1) := Lib.hid (by rw [hN]; exact BD.out.alloc BD.out.size _)
  have BAW1 : Hid (Below wd.heap.size wd wa1) := Lib.hid (by rw [hN]; exact (Below.refl _ _).alloc (Nat.le_refl _) _)
  have CA1 : Hid (ChunksC (fun k => k < wa1.heap.size) wa1 (.slice (some ⟨wd.heap.size, 0, none⟩) 2 2) [a, r]) := Lib.hid (by rw [hN]; exact (chunks_two wd _ _ a r (HA.out _ (HW.out _ BD.out)) (HR.out _ (HW.out _ BD.out))).kept (fun k hk => ⟨by simpa using hk, rfl⟩))
  obtain ⟨q1, hq⟩ : ∃ q, wd.heap.size = q := ⟨_, rfl⟩
  rw [hq] at CA1 ⊢
  clear hN hq BD
  try go_wp2_with fail
  refine hK.out _ _ (by exact HF.out _ (Hid.out (by assumption))) (fun hHeld => ?_)
  clear hK K
  try simp only [Act.put, List.setIfInBounds_toArray, List.set_cons_zero, List.set_cons_succ]
  refine wpAnyH_ready (rs := [3]) (by kernel_rfl) (by simp) ?_
  refine AllReadyH.cons (o := ⟨_, _, _, _, _, _⟩) rfl (fun K hK => ?_) AllReadyH.nil
  go_simp
  refine (join_any _ _ [a, r] wa1 (fun k hk => hk) CA1.out (by simp; omega) (by simp)).mono ?_
  rintro e wb1 ⟨u1, rfl, ho, hbb⟩
  rw [show [a, r].flatten = a ++ r by simp] at ho
  obtain ⟨La, hLa⟩ : ∃ L, a ++ r = L := ⟨_, rfl⟩
  have hLal : La.length ≤ 2097152 := by rw [← hLa]; simp; omega
  rw [hLa] at ho HX1 HX2 HXC HSAME
  clear hLa
  have BB1 : Hid (Below wp.heap.size wp wb1) := Lib.hid (BA1.out.trans (hbb.mono BA1.out.size))
  have OB1 := Lib.hid (own_c ho)
  obtain ⟨u1a, u1c, rfl⟩ := own_slice ho
  have hbJ1 := Lib.hid hbb
  clear ho hbb BA1 CA1
  try go_wp2_with fail
  refine hK.out _ _ (by exact HF.out _ (Hid.out (by assumption))) (fun hHeld => ?_)
  clear hK K
  try simp only [Act.put, List.setIfInBounds_toArray, List.set_cons_zero, List.set_cons_succ]
  refine wpAnyH_ready (rs := [5]) (by kernel_rfl) (by simp) ?_
  refine AllReadyH.cons (o := ⟨_, _, _, _, _, _⟩) rfl (fun K hK => ?_) AllReadyH.nil
  go_simp
  refine (split_ok _ _ La 2 40 3 wb1 (fun k hk => hk.2) OB1.out (by omega) wrong_no).mono ?_
  rintro e wc1 ⟨x1, vs1, rfl, hch, hbb⟩
  have BC1 : Hid (Below wp.heap.size wp wc1) := Lib.hid (BB1.out.trans (hbb.mono BB1.out.size))
  have hcc := hch.c
  obtain ⟨X, hX⟩ : ∃ L, chunksL 2 40 3 La = L := ⟨_, rfl⟩
  rw [hX] at hcc HX1 HX2 HXC HSAME
  have CX := Lib.hid (fun (W : World) (h : Below wc1.heap.size wc1 W) => hcc.kept (S' := fun k => k < wc1.heap.size) (w' := W) (fun k hk => ⟨hk.2, h.block k hk.2⟩))
  obtain ⟨Xa, Xc, rfl⟩ := hcc.shape
  have hbC1 := Lib.hid (BAW1.out.trans ((hbJ1.out.mono BAW1.out.size).trans (hbb.mono (Nat.le_trans BAW1.out.size hbJ1.out.size))))
  clear hch hbb hcc hX BB1 OB1 BAW1 hbJ1
  try go_wp2_with fail
  refine hK.out _ _ (by exact HF.out _ (Hid.out (by assumption))) (fun hHeld => ?_)
  clear hK K
  try simp only [Act.put, List.setIfInBounds_toArray, List.set_cons_zero, List.set_cons_succ]
  refine wpAnyH_take (i := 6) (oi := ⟨_, _, _, _, _, _⟩) (v := ?_) rfl (by kernel_rfl) (by kernel_rfl) (by kernel_rfl) (fun _ _ _ h => h) (Or.inl ⟨by rfl, ?_⟩) (by assumption) ?_
  rotate_left
  · intro w hSw; (try dsimp only at hSw); first | (go_simp; done) | (go_simp; with_reducible rfl)
  try simp only [Act.put, List.setIfInBounds_toArray, List.set_cons_zero, List.set_cons_succ]
  refine wpAnyH_take (i := 7) (oi := ⟨_, _, _, _, _, _⟩) (v := ?_) rfl (by kernel_rfl) (by kernel_rfl) (by kernel_rfl) (fun _ _ _ h => h) (Or.inl ⟨by rfl, ?_⟩) (by assumption) ?_
  rotate_left
  · intro w hSw; (try dsimp only at hSw); first | (go_simp; done) | (go_simp; with_reducible rfl)
  try simp only [Act.put, List.setIfInBounds_toArray, List.set_cons_zero, List.set_cons_succ]
  refine wpAnyH_take (i := 8) (oi := ⟨_, _, _, _, _, _⟩) (v := ?_) rfl (by kernel_rfl) (by kernel_rfl) (by kernel_rfl) (fun _ _ _ h => h) (Or.inl ⟨by rfl, ?_⟩) (by assumption) ?_
  rotate_left
  · intro w hSw; (try dsimp only at hSw); first | (go_simp; done) | (go_simp; with_reducible rfl)
  try simp only [Act.put, List.setIfInBounds_toArray, List.set_cons_zero, List.set_cons_succ]
  refine wpAnyH_take (i := 9) (oi := ⟨_, _, _, _, _, _⟩) (v := ?_) rfl (by kernel_rfl) (by kernel_rfl) (by kernel_rfl) (fun _ _ _ h => h) (Or.inl ⟨by rfl, ?_⟩) (by assumption) ?_
  rotate_left
  · intro w hSw; (try dsimp only at hSw); first | (go_simp; done) | (go_simp; with_reducible rfl)
  try simp only [Act.put, List.setIfInBounds_toArray, List.set_cons_zero, List.set_cons_succ]
  refine wpAnyH_take (i := 10) (oi := ⟨_, _, _, _, _, _⟩) (v := ?_) rfl (by kernel_rfl) (by kernel_rfl) (by kernel_rfl) (fun _ _ _ h => h) (Or.inl ⟨by rfl, ?_⟩) (by assumption) ?_
  rotate_left
  · intro w hSw; (try dsimp only at hSw); first | (go_simp; done) | (go_simp; with_reducible rfl)
  try simp only [Act.put, List.setIfInBounds_toArray, List.set_cons_zero, List.set_cons_succ]
  refine wpAnyH_done (by kernel_rfl) ?_ _
  clear hHeld
  go_upto_region 3 with fail
  have BD : Hid (Below wp.heap.size wp wc1.drew) := Lib.hid (BC1.out.trans (below_drewN _ wc1 1))
  refine wp_region_held_drew (S := (fun W => W.cell? ⟨pb, 0, none⟩ = some (.int .i64 2) ∧ W.cell? ⟨pb, 1, none⟩ = some (.int .i64 40) ∧ W.cell? ⟨pb, 2, none⟩ = some (.int .i64 3))) (by kernel_rfl) (by exact HF.out _ (Hid.out (by assumption))) (fun hHeld => ?_)
  obtain ⟨wd, hwd⟩ : ∃ W, wc1.drew = W := ⟨_, rfl⟩
  rw [hwd] at BD hHeld ⊢
  have BWD : Hid (Below wc1.heap.size wc1 wd) := Lib.hid (by rw [← hwd]; exact below_drewN _ wc1 1)
  clear hwd
  refine wpAnyH_take (i := 0) (oi := ⟨_, _, _, _, _, _⟩) (v := ?_) rfl (by kernel_rfl) (by kernel_rfl) (by kernel_rfl) (fun _ _ _ h => h) (Or.inl ⟨by rfl, ?_⟩) (by assumption) ?_
  rotate_left
  · intro w hSw; (try dsimp only at hSw); first | (go_simp; done) | (go_simp; with_reducible rfl)
  try simp only [Act.put, List.setIfInBounds_toArray, List.set_cons_zero, List.set_cons_succ]
  refine wpAnyH_take (i := 1) (oi := ⟨_, _, _, _, _, _⟩) (v := ?_) rfl (by kernel_rfl) (by kernel_rfl) (by kernel_rfl) (fun _ _ _ h => h) (Or.inl ⟨by rfl, ?_⟩) (by assumption) ?_
  rotate_left
  · intro w hSw; (try dsimp only at hSw); first | (go_simp; done) | (go_simp; with_reducible rfl)
  try simp only [Act.put, List.setIfInBounds_toArray, List.set_cons_zero, List.set_cons_succ]
  refine wpAnyH_take (i := 4) (oi := ⟨_, _, _, _, _, _⟩) (v := ?_) rfl (by kernel_rfl) (by kernel_rfl) (by kernel_rfl) (fun _ _ _ h => h) (Or.inl ⟨by rfl, ?_⟩) (by assumption) ?_
  rotate_left
  · intro w hSw; (try dsimp only at hSw); first | (go_simp; done) | (go_simp; with_reducible rfl)
  try simp only [Act.put, List.setIfInBounds_toArray, List.set_cons_zero, List.set_cons_succ]
  refine wpAnyH_ready (rs := [2]) (by kernel_rfl) (by simp) ?_
  refine AllReadyH.cons (o := ⟨_, _, _, _, _, _⟩) rfl (fun K hK => ?_) AllReadyH.nil
  go_simp
  refine any_stepC (fun wa2 hN => ?_)
  have BA2 : Hid (Below wp.heap.size wp wa2) := Lib.hid (by rw [hN]; exact BD.out.alloc BD.out.size _)
  have BAW2 : Hid (Below wd.heap.size wd wa2) := Lib.hid (by rw [hN]; exact (Below.refl _ _).alloc (Nat.le_refl _) _)
  have CA2 : Hid (ChunksC (fun k => k < wa2.heap.size) wa2 (.slice (some ⟨wd.heap.size, 0, none⟩) 2 2) [b, r]) := Lib.hid (by rw [hN]; exact (chunks_two wd _ _ b r (HB.out _ (HW.out _ BD.out)) (HR.out _ (HW.out _ BD.out))).kept (fun k hk => ⟨by simpa using hk, rfl⟩))
  obtain ⟨q2, hq⟩ : ∃ q, wd.heap.size = q := ⟨_, rfl⟩
  rw [hq] at CA2 ⊢
  clear hN hq BD
  try go_wp2_with fail
  refine hK.out _ _ (by exact HF.out _ (Hid.out (by assumption))) (fun hHeld => ?_)
  clear hK K
  try simp only [Act.put, List.setIfInBounds_toArray, List.set_cons_zero, List.set_cons_succ]
  refine wpAnyH_ready (rs := [3]) (by kernel_rfl) (by simp) ?_
  refine AllReadyH.cons (o := ⟨_, _, _, _, _, _⟩) rfl (fun K hK => ?_) AllReadyH.nil
  go_simp
  refine (join_any _ _ [b, r] wa2 (fun k hk => hk) CA2.out (by simp; omega) (by simp)).mono ?_
  rintro e wb2 ⟨u2, rfl, ho, hbb⟩
  rw [show [b, r].flatten = b ++ r by simp] at ho
  obtain ⟨Lb, hLb⟩ : ∃ L, b ++ r = L := ⟨_, rfl⟩
  have hLbl : Lb.length ≤ 2097152 := by rw [← hLb]; simp; omega
  rw [hLb] at ho HY1 HY2 HYC HSAME
  clear hLb
  have BB2 : Hid (Below wp.heap.size wp wb2) := Lib.hid (BA2.out.trans (hbb.mono BA2.out.size))
  have OB2 := Lib.hid (own_c ho)
  obtain ⟨u2a, u2c, rfl⟩ := own_slice ho
  have hbJ2 := Lib.hid hbb
  clear ho hbb BA2 CA2
  try go_wp2_with fail
  refine hK.out _ _ (by exact HF.out _ (Hid.out (by assumption))) (fun hHeld => ?_)
  clear hK K
  try simp only [Act.put, List.setIfInBounds_toArray, List.set_cons_zero, List.set_cons_succ]
  refine wpAnyH_ready (rs := [5]) (by kernel_rfl) (by simp) ?_
  refine AllReadyH.cons (o := ⟨_, _, _, _, _, _⟩) rfl (fun K hK => ?_) AllReadyH.nil
  go_simp
  refine (split_ok _ _ Lb 2 40 3 wb2 (fun k hk => hk.2) OB2.out (by omega) wrong_no).mono ?_
  rintro e wc2 ⟨x2, vs2, rfl, hch, hbb⟩
  have BC2 : Hid (Below wp.heap.size wp wc2) := Lib.hid (BB2.out.trans (hbb.mono BB2.out.size))
  have hcc := hch.c
  obtain ⟨Y, hY⟩ : ∃ L, chunksL 2 40 3 Lb = L := ⟨_, rfl⟩
  rw [hY] at hcc HY1 HY2 HYC HSAME
  have CY := Lib.hid (fun (W : World) (h : Below wc2.heap.size wc2 W) => hcc.kept (S' := fun k => k < wc2.heap.size) (w' := W) (fun k hk => ⟨hk.2, h.block k hk.2⟩))
  obtain ⟨Ya, Yc, rfl⟩ := hcc.shape
  have hbC2 := Lib.hid (BAW2.out.trans ((hbJ2.out.mono BAW2.out.size).trans (hbb.mono (Nat.le_trans BAW2.out.size hbJ2.out.size))))
  clear hch hbb hcc hY BB2 OB2 BAW2 hbJ2
  try go_wp2_with fail
  refine hK.out _ _ (by exact HF.out _ (Hid.out (by assumption))) (fun hHeld => ?_)
  clear hK K
  try simp only [Act.put, List.setIfInBounds_toArray, List.set_cons_zero, List.set_cons_succ]
  refine wpAnyH_take (i := 6) (oi := ⟨_, _, _, _, _, _⟩) (v := ?_) rfl (by kernel_rfl) (by kernel_rfl) (by kernel_rfl) (fun _ _ _ h => h) (Or.inl ⟨by rfl, ?_⟩) (by assumption) ?_
  rotate_left
  · intro w hSw; (try dsimp only at hSw); first | (go_simp; done) | (go_simp; with_reducible rfl)
  try simp only [Act.put, List.setIfInBounds_toArray, List.set_cons_zero, List.set_cons_succ]
  refine wpAnyH_take (i := 7) (oi := ⟨_, _, _, _, _, _⟩) (v := ?_) rfl (by kernel_rfl) (by kernel_rfl) (by kernel_rfl) (fun _ _ _ h => h) (Or.inl ⟨by rfl, ?_⟩) (by assumption) ?_
  rotate_left
  · intro w hSw; (try dsimp only at hSw); first | (go_simp; done) | (go_simp; with_reducible rfl)
  try simp only [Act.put, List.setIfInBounds_toArray, List.set_cons_zero, List.set_cons_succ]
  refine wpAnyH_take (i := 8) (oi := ⟨_, _, _, _, _, _⟩) (v := ?_) rfl (by kernel_rfl) (by kernel_rfl) (by kernel_rfl) (fun _ _ _ h => h) (Or.inl ⟨by rfl, ?_⟩) (by assumption) ?_
  rotate_left
  · intro w hSw; (try dsimp only at hSw); first | (go_simp; done) | (go_simp; with_reducible rfl)
  try simp only [Act.put, List.setIfInBounds_toArray, List.set_cons_zero, List.set_cons_succ]
  refine wpAnyH_take (i := 9) (oi := ⟨_, _, _, _, _, _⟩) (v := ?_) rfl (by kernel_rfl) (by kernel_rfl) (by kernel_rfl) (fun _ _ _ h => h) (Or.inl ⟨by rfl, ?_⟩) (by assumption) ?_
  rotate_left
  · intro w hSw; (try dsimp only at hSw); first | (go_simp; done) | (go_simp; with_reducible rfl)
  try simp only [Act.put, List.setIfInBounds_toArray, List.set_cons_zero, List.set_cons_succ]
  refine wpAnyH_take (i := 10) (oi := ⟨_, _, _, _, _, _⟩) (v := ?_) rfl (by kernel_rfl) (by kernel_rfl) (by kernel_rfl) (fun _ _ _ h => h) (Or.inl ⟨by rfl, ?_⟩) (by assumption) ?_
  rotate_left
  · intro w hSw; (try dsimp only at hSw); first | (go_simp; done) | (go_simp; with_reducible rfl)
  try simp only [Act.put, List.setIfInBounds_toArray, List.set_cons_zero, List.set_cons_succ]
  refine wpAnyH_done (by kernel_rfl) ?_ _
  clear hHeld
  have BY2 := BC2
  clear BC1
  have CX2 := Lib.hid (fun (W : World) (h : Below wc2.heap.size wc2 W) => CX.out W (BWD.out.trans ((hbC2.out.mono BWD.out.size).trans (h.mono (Nat.le_trans BWD.out.size hbC2.out.size)))))
  have HS12 : Hid (wc1.heap.size ≤ wc2.heap.size) := Lib.hid (Nat.le_trans BWD.out.size hbC2.out.size)
  have kc := fun (w : World) (C : Array Value) (n c : Nat) => Lib.run_convert_bytes_const (P := Tryd.prog) w 22 5 C n c Tryd.underlying22 Tryd.underlying5
  have ABC := Lib.hid (abc_c wc2)
  have BZ0 : Hid (Below wp.heap.size wp (wc2.alloc (.cells #[.int .u8 97, .int .u8 98, .int .u8 99] 5 (3, 4)))) := Lib.hid (BY2.out.alloc BY2.out.size _)
  have BZ1 : Hid (Below wc2.heap.size wc2 (wc2.alloc (.cells #[.int .u8 97, .int .u8 98, .int .u8 99] 5 (3, 4)))) := Lib.hid ((Below.refl _ wc2).alloc (Nat.le_refl _) _)
  obtain ⟨f0, f1, f2⟩ := HF.out _ BZ0.out
  have hZC := chunks_count 2 40 3 [97, 98, 99]
  clear BC2 BWD hbC2 CX
  go_wp2_with fail
  refine (split_ok _ _ [97, 98, 99] 2 40 3 _ (fun k hk => by simpa using hk) ABC.out (by decide) wrong_no).mono ?_
  rintro e w4 ⟨x4, vs4, rfl, hch4, hb4⟩
  have B4 : Hid (Below wc2.heap.size wc2 w4) := Lib.hid (BZ1.out.trans (hb4.mono BZ1.out.size))
  have hcc4 := hch4.c
  obtain ⟨Z, hZ⟩ : ∃ L, chunksL 2 40 3 [97, 98, 99] = L := ⟨_, rfl⟩
  rw [hZ] at hcc4 HZ1 hZC
  have hzl : Z.length ≤ 3 := hZC
  have hzn : Z.length ≠ 0 := fun e => by
    have h := HZ1.out
    rw [List.length_eq_zero_iff.1 e] at h
    simp at h
  have CZ := Lib.hid hcc4
  obtain ⟨za, zc, rfl⟩ := hcc4.shape
  have gz1 : ((Z.length : Int) == 0) = false := by rw [beq_eq_false_iff_ne]; omega
  have gz2 : decide ((Z.length : Int) > 0) = true := by rw [decide_eq_true_eq]; omega
  have gz4 : decide (0 < Z.length) = true := by rw [decide_eq_true_eq]; omega
  have gz3 : decide ((0 : Int) < (Z.length : Int)) = true := by rw [decide_eq_true_eq]; omega
  clear hch4 hb4 hcc4 hZ ABC BZ0 BZ1 kc f0 f1 f2 hZC
  go_wp2_with fail
  refine (join_any _ _ Z w4 (fun k hk => hk.2) CZ.out (by rw [HZ1.out]; decide) (by omega)).mono ?_
  rintro e w5 ⟨v5, rfl, ho5, hb5⟩
  rw [HZ1.out] at ho5
  obtain ⟨T3, hT3⟩ : ∃ T, ([97, 98, 99] : List UInt8) = T := ⟨_, rfl⟩
  have gl : (T3 == [97, 98, 99]) = true := by rw [← hT3]; decide
  rw [hT3] at ho5
  have C5 := bytes_str (own_c ho5)
  obtain ⟨a5, c5, rfl⟩ := own_slice ho5
  have B5 : Hid (Below wc2.heap.size wc2 w5) := Lib.hid (B4.out.trans (hb5.mono B4.out.size))
  clear ho5 hb5 hT3 CZ B4 HZ1
  by_cases hr3 : r.length ≤ 3000
  · have BY5 := Lib.hid (fun (W : World) (h : Below w5.heap.size w5 W) => BY2.out.trans ((B5.out.trans (h.mono B5.out.size)).mono BY2.out.size))
    have CX5 := Lib.hid (fun (W : World) (h : Below w5.heap.size w5 W) => CX2.out W (B5.out.trans (h.mono B5.out.size)))
    have CY5 := Lib.hid (fun (W : World) (h : Below w5.heap.size w5 W) => CY.out W (B5.out.trans (h.mono B5.out.size)))
    have HSZ1 : Hid (wc1.heap.size ≤ w5.heap.size) := Lib.hid (Nat.le_trans HS12.out B5.out.size)
    have HSZ2 : Hid (wc2.heap.size ≤ w5.heap.size) := Lib.hid B5.out.size
    have hmm := @run_makeMap Tryd.prog
    have EM := Lib.hid (EndM.made w5 X (-(a.length : Int)))
    have BM : Hid (Below w5.heap.size w5 (w5.alloc (.map #[] 0))) := Lib.hid ((Below.refl _ w5).alloc (Nat.le_refl _) _)
    have hmlt : w5.heap.size < (w5.alloc (.map #[] 0)).heap.size := by simp
    have FN : Hid (∀ W : World, Below w5.heap.size w5 W → Below w.heap.size w W) := Lib.hid (fun W h => HW.out W (BY5.out W h))
    clear CX2 CY BY2 B5
    go_wp2_with fail
    clear hmm C5 gl gz1 gz2 gz3 gz4
    generalize w5.alloc (.map #[] 0) = wm at *
    obtain ⟨mb, hmb⟩ : ∃ q, w5.heap.size = q := ⟨_, rfl⟩
    rw [hmb] at EM BM hmlt FN CX5 CY5 ⊢
    have HMB := Lib.hid hmb
    clear hmb BY5
    go_loopw [15, 95] (fun p n wr => ∃ (k m : Nat) (D : DataW Unit), k ≤ X.length ∧ n = .int .i64 k ∧ p = .int .i64 (-(a.length : Int) + (posN X k : Int)) ∧ Hid (EndM wr mb m D X (-(a.length : Int)) k) ∧ Hid (Below mb w5 wr)) (fun _ n _ => X.length - (intOf n).toNat)
    case atStart => exact ⟨0, 0, _, Nat.zero_le _, rfl, by rw [posN_zero]; simp, EM, BM⟩
    case round =>
      obtain ⟨k, m, D, hk, rfl, rfl, hM, hW⟩ := hrel
      have hXC := HXC.out
      have hp1 := posN_le X k
      rw [HX1.out] at hp1
      by_cases hlt : k < X.length
      · obtain ⟨ad, rfl, _, hc1, hc2, hcs⟩ := (CX5.out wr hW.out).at' (by omega)
        obtain ⟨c, hck⟩ : ∃ c, X[k]? = some c := ⟨_, List.getElem?_eq_getElem hlt⟩
        obtain ⟨av, cv, e1, _⟩ := hcs k c hck
        have hcl := (HX2.out c (List.mem_of_getElem? hck)).2
        have hpn := posN_next hck
        have hp2 := posN_le X (k + 1)
        rw [HX1.out] at hp2
        have hml : m ≤ 2097152 := by have := hM.out.len; omega
        have HPN : Hid (posN X (k + 1) = posN X k + c.length) := Lib.hid hpn
        obtain ⟨P, hP⟩ : ∃ P, -(a.length : Int) + (posN X k : Int) = P := ⟨_, rfl⟩
        obtain ⟨P2, hP2⟩ : ∃ P2, P + (c.length : Int) = P2 := ⟨_, rfl⟩
        have HPE : Hid (-(a.length : Int) + (posN X (k + 1) : Int) = P2) := Lib.hid (by rw [hpn, ← hP2, ← hP]; omega)
        have hPb : -1048576 ≤ P ∧ P ≤ 3145728 := by omega
        have hPb2 : -1048576 ≤ P2 ∧ P2 ≤ 6291456 := by omega
        have hkey : keyOf Tryd.prog 3 (.int .i64 P2) = some (.int .i64 P2) := Go.Maps.keyOf_int_mk Tryd.underlying3 (WalkArith.wf_i64 (by omega))
        have hwf : (Lit.int .i64 ((k : Int) + 1)).wf = true := WalkArith.wf_i64 (by omega)
        rw [hP]
        clear hp1 hp2 hpn hP hck hcs HPN
        go_wp2_with (at_mapUpdate; go_loud (refine wpList_mapUpdate_own _ rfl _ _ _ 54 rfl 3 3 keyLawI Tryd.underlying54 _ mb m _ rfl hM.out.own (by unfold maxLen; omega) _ _ _ rfl rfl hkey _ [] (plainElem_int Tryd.underlying3 hwf) ?_))
        intro w9 ho9 hg9
        have M9 := Lib.hid (hM.out.put (by rw [HPE.out, show ((k + 1 : Nat) : Int) = (k : Int) + 1 by omega]; exact ho9))
        have B9 : Hid (Below mb w5 w9) := Lib.hid (hW.out.grown hg9 (by have := hW.out.size; have := HMB.out; omega) (fun q hq => by injection hq with hq; omega))
        clear ho9 hg9
        go_wp2_with fail
        go_roundw
        case rel => exact ⟨k + 1, m + 1, _, by omega, by go_num, by rw [HPE.out], M9, B9⟩
        case measure => simp [intOf]; omega
      · obtain rfl : k = X.length := by omega
        have MM := Lib.hid (fun (W : World) (h : Below wr.heap.size wr W) => hM.out.kept (h.block mb hM.out.lt))
        have BL := hW
        have hmw : mb ≤ wr.heap.size := by have := hM.out.lt; omega
        have TO := Lib.hid (fun (W : World) (h : Below wr.heap.size wr W) => BL.out.trans (h.mono hmw))
        have hml : m ≤ 2097152 := by have := hM.out.len; omega
        clear hM hW hp1 hk hlt
        generalize wr = wl at *
        go_wp2_with fail
        go_loopw [15, 114] (fun p n wq => ∃ k : Nat, k ≤ Y.length ∧ n = .int .i64 k ∧ p = .int .i64 (-(b.length : Int) + (posN Y k : Int)) ∧ Hid (Below wl.heap.size wl wq)) (fun _ n _ => Y.length - (intOf n).toNat)
        case atStart => exact ⟨0, Nat.zero_le _, rfl, by rw [posN_zero]; simp, Lib.hid (Below.refl _ _)⟩
        case round =>
          obtain ⟨k, hk, rfl, rfl, hW⟩ := hrel
          have hYC := HYC.out
          have hp1 := posN_le Y k
          rw [HY1.out] at hp1
          by_cases hlt : k < Y.length
          · obtain ⟨ady, rfl, _, hc1, hc2, hcs⟩ := (CY5.out wr (TO.out _ hW.out)).at' (by omega)
            obtain ⟨c, hck⟩ : ∃ c, Y[k]? = some c := ⟨_, List.getElem?_eq_getElem hlt⟩
            obtain ⟨av, cv, e1, _⟩ := hcs k c hck
            have hcl := (HY2.out c (List.mem_of_getElem? hck)).2
            have hpn := posN_next hck
            have hp2 := posN_le Y (k + 1)
            rw [HY1.out] at hp2
            obtain ⟨P, hP⟩ : ∃ P, -(b.length : Int) + (posN Y k : Int) = P := ⟨_, rfl⟩
            obtain ⟨P2, hP2⟩ : ∃ P2, P + (c.length : Int) = P2 := ⟨_, rfl⟩
            have HPE : Hid (-(b.length : Int) + (posN Y (k + 1) : Int) = P2) := Lib.hid (by rw [hpn, ← hP2, ← hP]; omega)
            have hPb : -1048576 ≤ P ∧ P ≤ 3145728 := by omega
            have hPb2 : -1048576 ≤ P2 ∧ P2 ≤ 6291456 := by omega
            have hkey : keyOf Tryd.prog 3 (.int .i64 P2) = some (.int .i64 P2) := Go.Maps.keyOf_int_mk Tryd.underlying3 (WalkArith.wf_i64 (by omega))
            have HAT := Lib.hid ((MM.out wr hW.out).at_ P2)
            have hile := endsN'_le X (-(a.length : Int)) X.length P2
            have HIS := Lib.hid (endsN'_is X (-(a.length : Int)) X.length P2)
            obtain ⟨i, hi⟩ : ∃ i, endsN' X (-(a.length : Int)) X.length P2 = i := ⟨_, rfl⟩
            rw [hi] at HAT hile HIS
            rw [hP]
            have HCK := Lib.hid hcs
            clear hp1 hp2 hpn hP hck hi
            by_cases hneg : P2 < 0
            · go_wp2_with (at_lookup; refine wpList_lookup_own_int _ rfl _ _ 54 rfl 3 3 .i64 keyLawI Tryd.underlying54 Tryd.underlying3 (zeroIntI _) mb m D rfl (MM.out wr hW.out).own _ _ rfl hkey ?_; intro cv' hat hwc; obtain rfl := cv_of' hat HAT.out; clear hat hwc)
              go_roundw
              case rel => exact ⟨k + 1, by omega, by go_num, by rw [HPE.out], hW⟩
              case measure => simp [intOf]; omega
            · by_cases hi0 : i = 0
              · have gi : ((i : Int) == 0) = true := by rw [beq_iff_eq]; omega
                clear hi0
                go_wp2_with (at_lookup; refine wpList_lookup_own_int _ rfl _ _ 54 rfl 3 3 .i64 keyLawI Tryd.underlying54 Tryd.underlying3 (zeroIntI _) mb m D rfl (MM.out wr hW.out).own _ _ rfl hkey ?_; intro cv' hat hwc; obtain rfl := cv_of' hat HAT.out; clear hat hwc)
                go_roundw
                case rel => exact ⟨k + 1, by omega, by go_num, by rw [HPE.out], hW⟩
                case measure => simp [intOf]; omega
              · have gi : ((i : Int) == 0) = false := by rw [beq_eq_false_iff_ne]; omega
                have hdrop := HSAME.out i (k + 1) hile (by omega) P2.toNat (by have := (HIS.out hi0).2; omega) (by have := HPE.out; omega)
                have hlen : X.length - i = Y.length - (k + 1) := by have := congrArg List.length hdrop; simpa using this
                have gne : ((X.length : Int) - (i : Int) != (Y.length : Int) - (k : Int) - 1) = false := by rw [bne_eq_false_iff_eq]; omega
                have HDR := Lib.hid hdrop
                obtain ⟨adx, rfl, hxS, hx1, hx2, _⟩ := (CX5.out wr (TO.out _ hW.out)).at' (by omega)
                have HCX : Hid (∀ W : World, Below mb w5 W → adx.block < wc1.heap.size ∧ ∀ j l, X[j]? = some l → ∃ av cv, W.cell? (adx.add j) = some (.slice av l.length cv) ∧ BytesC (fun k => k < wc1.heap.size) W (.slice av l.length cv) l) := Lib.hid (fun W h => by
                  obtain ⟨ad', e, h2, _, _, h5⟩ := (CX5.out W h).at' (by omega)
                  have e2 : adx = ad' := by injection e
                  subst e2
                  exact ⟨h2, h5⟩)
                have HCY : Hid (∀ W : World, Below mb w5 W → ady.block < wc2.heap.size ∧ ∀ j l, Y[j]? = some l → ∃ av cv, W.cell? (ady.add j) = some (.slice av l.length cv) ∧ BytesC (fun k => k < wc2.heap.size) W (.slice av l.length cv) l) := Lib.hid (fun W h => by
                  obtain ⟨ad', e, h2, _, _, h5⟩ := (CY5.out W h).at' (by omega)
                  have e2 : ady = ad' := by injection e
                  subst e2
                  exact ⟨h2, h5⟩)
                obtain ⟨asl, csl, hsl⟩ := slice_from adx X.length Xc i (by omega) hx1
                have hsz1 : wc1.heap.size ≤ w5.heap.size := HSZ1.out
                have hsz2 : wc2.heap.size ≤ w5.heap.size := HSZ2.out
                have TOK := Lib.hid (fun (W : World) (h : Below wr.heap.size wr W) => TO.out W (hW.out.trans (h.mono hW.out.size)))
                have hkw : wl.heap.size ≤ wr.heap.size := hW.out.size
                have hwl : w5.heap.size ≤ wl.heap.size := (BL.out).size
                clear hdrop hi0 HCK
                go_wp2_with (at_lookup; refine wpList_lookup_own_int _ rfl _ _ 54 rfl 3 3 .i64 keyLawI Tryd.underlying54 Tryd.underlying3 (zeroIntI _) mb m D rfl (MM.out wr hW.out).own _ _ rfl hkey ?_; intro cv' hat hwc; obtain rfl := cv_of' hat HAT.out; clear hat hwc)
                clear hsl gne gi HAT HIS e1 hneg
                generalize wr = wk at *
                go_loopw [146] (fun n wq => ∃ q : Nat, q ≤ X.length - i ∧ n = .int .i64 q ∧ Hid (Below wk.heap.size wk wq)) (fun n _ => X.length - i - (intOf n).toNat)
                case atStart => exact ⟨0, Nat.zero_le _, rfl, Lib.hid (Below.refl _ _)⟩
                case round =>
                  obtain ⟨q, hq, rfl, hV⟩ := hrel
                  by_cases hlq : q < X.length - i
                  · generalize wr = wq at *
                    obtain ⟨m1, hm1⟩ : ∃ m, i + q = m := ⟨_, rfl⟩
                    obtain ⟨k1, hk1⟩ : ∃ m, k + 1 = m := ⟨_, rfl⟩
                    obtain ⟨m2, hm2⟩ : ∃ m, k1 + q = m := ⟨_, rfl⟩
                    have hm1l : m1 < X.length := by omega
                    have hm2l : m2 < Y.length := by omega
                    obtain ⟨d, hd⟩ : ∃ d, X[m1]? = some d := ⟨_, List.getElem?_eq_getElem hm1l⟩
                    have hdy : Y[m2]? = some d := by
                      have h1 : (X.drop i)[q]? = some d := by rw [List.getElem?_drop, hm1]; exact hd
                      rw [HDR.out, List.getElem?_drop, hk1, hm2] at h1
                      exact h1
                    have hdl := (HX2.out d (List.mem_of_getElem? hd)).2
                    obtain ⟨hxb, hxs⟩ := HCX.out wq (TOK.out _ hV.out)
                    obtain ⟨hyb, hys⟩ := HCY.out wq (TOK.out _ hV.out)
                    obtain ⟨dx, cx, ex, bx⟩ := hxs m1 d hd
                    obtain ⟨dy, cy, ey, by'⟩ := hys m2 d hdy
                    have hqs : wk.heap.size ≤ wq.heap.size := hV.out.size
                    have HBx : Hid (∀ W : World, Below wq.heap.size wq W → BytesC (fun k => k < W.heap.size) W (.slice dx d.length cx) d) := Lib.hid (fun W h => bx.kept (fun k hk => ⟨by have := h.size; omega, h.block k (by omega)⟩))
                    have HBy : Hid (∀ W : World, Below wq.heap.size wq W → BytesC (fun k => k < W.heap.size) W (.slice dy d.length cy) d) := Lib.hid (fun W h => by'.kept (fun k hk => ⟨by have := h.size; omega, h.block k (by omega)⟩))
                    have HG : Hid (∀ W : World, Below wq.heap.size wq W → W.cell? (adx.add m1) = some (.slice dx d.length cx) ∧ W.cell? (ady.add m2) = some (.slice dy d.length cy) ∧ (convert 22 9 (.slice dx d.length cx)).run Tryd.prog W = .ok (.string ⟨d.toArray⟩) W ∧ (convert 22 9 (.slice dy d.length cy)).run Tryd.prog W = .ok (.string ⟨d.toArray⟩) W) := Lib.hid (fun W h =>
                      ⟨(World.cell?_of_block (w := wq) (by rw [add_block]; exact h.block _ (by omega))).trans ex, (World.cell?_of_block (w := wq) (by rw [add_block]; exact h.block _ (by omega))).trans ey, bytes_str (HBx.out W h), bytes_str (HBy.out W h)⟩)
                    have TOQ := Lib.hid (fun (W : World) (h : Below wq.heap.size wq W) => TOK.out W (hV.out.trans (h.mono hqs)))
                    obtain ⟨O, hO⟩ : ∃ O, sumN d = O := ⟨_, rfl⟩
                    have hOl : O.length = 32 := by rw [← hO]; exact sumN_len d
                    have hneq : ∀ w, (binOp .neq 25 (.agg (bv O).toArray) (.agg (bv O).toArray)).run Tryd.prog w = .ok (.bool false) w := fun w => by have h := id_neq w hOl hOl; simpa using h
                    have hgd : (d == d) = true := by simp
                    have w1 : IntKind.i64.wrap ((i : Int) + (q : Int)) = (m1 : Int) := by rw [IntWalk.i64_in _ (by omega)]; omega
                    have w2 : (i : Int) + (q : Int) = (m1 : Int) := by omega
                    have w3 : IntKind.i64.wrap ((k : Int) + 1) = (k1 : Int) := by rw [IntWalk.i64_in _ (by omega)]; omega
                    have w4' : (k : Int) + 1 = (k1 : Int) := by omega
                    have w5' : IntKind.i64.wrap ((k1 : Int) + (q : Int)) = (m2 : Int) := by rw [IntWalk.i64_in _ (by omega)]; omega
                    have w6 : (k1 : Int) + (q : Int) = (m2 : Int) := by omega
                    have v1 : IntKind.i64.wrap (m1 : Int) = (m1 : Int) := IntWalk.i64_in _ (by omega)
                    have v2 : IntKind.i64.wrap (k1 : Int) = (k1 : Int) := IntWalk.i64_in _ (by omega)
                    have v3 : IntKind.i64.wrap (m2 : Int) = (m2 : Int) := IntWalk.i64_in _ (by omega)
                    clear hm1 hk1 hm2 hd hdy hxs hys ex ey bx by' hOl
                    go_upto_region 27 with fail
                    refine wp_region_held_drew (S := (fun W => W.cell? (adx.add m1) = some (.slice dx d.length cx) ∧ W.cell? (ady.add m2) = some (.slice dy d.length cy) ∧ (convert 22 9 (.slice dx d.length cx)).run Tryd.prog W = .ok (.string ⟨d.toArray⟩) W ∧ (convert 22 9 (.slice dy d.length cy)).run Tryd.prog W = .ok (.string ⟨d.toArray⟩) W)) (by kernel_rfl) (by exact HG.out _ (below_drewN _ wq 1)) (fun hHeld => ?_)
                    have BD0 : Hid (Below wq.heap.size wq wq.drew) := Lib.hid (below_drewN _ wq 1)
                    obtain ⟨wd, hwd⟩ : ∃ W, wq.drew = W := ⟨_, rfl⟩
                    rw [hwd] at BD0 hHeld ⊢
                    clear hwd
                    refine wpAnyH_take (i := 0) (oi := ⟨_, _, _, _, _, _⟩) (v := ?_) rfl (by kernel_rfl) (by kernel_rfl) (by kernel_rfl) (fun _ _ _ h => h) (Or.inl ⟨by rfl, ?_⟩) (by assumption) ?_
                    rotate_left
                    · intro w hSw; (try dsimp only at hSw); first | (go_simp; done) | (go_simp; with_reducible rfl)
                    try simp only [Act.put, List.setIfInBounds_toArray, List.set_cons_zero, List.set_cons_succ]
                    refine wpAnyH_take (i := 1) (oi := ⟨_, _, _, _, _, _⟩) (v := ?_) rfl (by kernel_rfl) (by kernel_rfl) (by kernel_rfl) (fun _ _ _ h => h) (Or.inl ⟨by rfl, ?_⟩) (by assumption) ?_
                    rotate_left
                    · intro w hSw; (try dsimp only at hSw); first | (go_simp; done) | (go_simp; with_reducible rfl)
                    try simp only [Act.put, List.setIfInBounds_toArray, List.set_cons_zero, List.set_cons_succ]
                    refine wpAnyH_take (i := 2) (oi := ⟨_, _, _, _, _, _⟩) (v := ?_) rfl (by kernel_rfl) (by kernel_rfl) (by kernel_rfl) (fun _ _ _ h => h) (Or.inl ⟨by rfl, ?_⟩) (by assumption) ?_
                    rotate_left
                    · intro w hSw; (try dsimp only at hSw); first | (go_simp; done) | (go_simp; with_reducible rfl)
                    try simp only [Act.put, List.setIfInBounds_toArray, List.set_cons_zero, List.set_cons_succ]
                    refine wpAnyH_take (i := 3) (oi := ⟨_, _, _, _, _, _⟩) (v := ?_) rfl (by kernel_rfl) (by kernel_rfl) (by kernel_rfl) (fun _ _ _ h => h) (Or.inl ⟨by rfl, ?_⟩) (by assumption) ?_
                    rotate_left
                    · intro w hSw; (try dsimp only at hSw); first | (go_simp; done) | (go_simp; with_reducible rfl)
                    try simp only [Act.put, List.setIfInBounds_toArray, List.set_cons_zero, List.set_cons_succ]
                    refine wpAnyH_take (i := 4) (oi := ⟨_, _, _, _, _, _⟩) (v := ?_) rfl (by kernel_rfl) (by kernel_rfl) (by kernel_rfl) (fun _ _ _ h => h) (Or.inl ⟨by rfl, ?_⟩) (by assumption) ?_
                    rotate_left
                    · intro w hSw; (try dsimp only at hSw); first | (go_simp; done) | (go_simp; with_reducible rfl)
                    try simp only [Act.put, List.setIfInBounds_toArray, List.set_cons_zero, List.set_cons_succ]
                    refine wpAnyH_take (i := 5) (oi := ⟨_, _, _, _, _, _⟩) (v := ?_) rfl (by kernel_rfl) (by kernel_rfl) (by kernel_rfl) (fun _ _ _ h => h) (Or.inl ⟨by rfl, ?_⟩) (by assumption) ?_
                    rotate_left
                    · intro w hSw; (try dsimp only at hSw); first | (go_simp; done) | (go_simp; with_reducible rfl)
                    try simp only [Act.put, List.setIfInBounds_toArray, List.set_cons_zero, List.set_cons_succ]
                    refine wpAnyH_take (i := 8) (oi := ⟨_, _, _, _, _, _⟩) (v := ?_) rfl (by kernel_rfl) (by kernel_rfl) (by kernel_rfl) (fun _ _ _ h => h) (Or.inl ⟨by rfl, ?_⟩) (by assumption) ?_
                    rotate_left
                    · intro w hSw; (try dsimp only at hSw); first | (go_simp; done) | (go_simp; with_reducible rfl)
                    try simp only [Act.put, List.setIfInBounds_toArray, List.set_cons_zero, List.set_cons_succ]
                    refine wpAnyH_take (i := 9) (oi := ⟨_, _, _, _, _, _⟩) (v := ?_) rfl (by kernel_rfl) (by kernel_rfl) (by kernel_rfl) (fun _ _ _ h => h) (Or.inl ⟨by rfl, ?_⟩) (by assumption) ?_
                    rotate_left
                    · intro w hSw; (try dsimp only at hSw); first | (go_simp; done) | (go_simp; with_reducible rfl)
                    try simp only [Act.put, List.setIfInBounds_toArray, List.set_cons_zero, List.set_cons_succ]
                    refine wpAnyH_take (i := 10) (oi := ⟨_, _, _, _, _, _⟩) (v := ?_) rfl (by kernel_rfl) (by kernel_rfl) (by kernel_rfl) (fun _ _ _ h => h) (Or.inl ⟨by rfl, ?_⟩) (by assumption) ?_
                    rotate_left
                    · intro w hSw; (try dsimp only at hSw); first | (go_simp; done) | (go_simp; with_reducible rfl)
                    try simp only [Act.put, List.setIfInBounds_toArray, List.set_cons_zero, List.set_cons_succ]
                    refine wpAnyH_take (i := 11) (oi := ⟨_, _, _, _, _, _⟩) (v := ?_) rfl (by kernel_rfl) (by kernel_rfl) (by kernel_rfl) (fun _ _ _ h => h) (Or.inl ⟨by rfl, ?_⟩) (by assumption) ?_
                    rotate_left
                    · intro w hSw; (try dsimp only at hSw); first | (go_simp; done) | (go_simp; with_reducible rfl)
                    try simp only [Act.put, List.setIfInBounds_toArray, List.set_cons_zero, List.set_cons_succ]
                    refine wpAnyH_take (i := 12) (oi := ⟨_, _, _, _, _, _⟩) (v := ?_) rfl (by kernel_rfl) (by kernel_rfl) (by kernel_rfl) (fun _ _ _ h => h) (Or.inl ⟨by rfl, ?_⟩) (by assumption) ?_
                    rotate_left
                    · intro w hSw; (try dsimp only at hSw); first | (go_simp; done) | (go_simp; with_reducible rfl)
                    try simp only [Act.put, List.setIfInBounds_toArray, List.set_cons_zero, List.set_cons_succ]
                    refine wpAnyH_take (i := 13) (oi := ⟨_, _, _, _, _, _⟩) (v := ?_) rfl (by kernel_rfl) (by kernel_rfl) (by kernel_rfl) (fun _ _ _ h => h) (Or.inl ⟨by rfl, ?_⟩) (by assumption) ?_
                    rotate_left
                    · intro w hSw; (try dsimp only at hSw); first | (go_simp; done) | (go_simp; with_reducible rfl)
                    try simp only [Act.put, List.setIfInBounds_toArray, List.set_cons_zero, List.set_cons_succ]
                    refine wpAnyH_take (i := 14) (oi := ⟨_, _, _, _, _, _⟩) (v := ?_) rfl (by kernel_rfl) (by kernel_rfl) (by kernel_rfl) (fun _ _ _ h => h) (Or.inl ⟨by rfl, ?_⟩) (by assumption) ?_
                    rotate_left
                    · intro w hSw; (try dsimp only at hSw); first | (go_simp; done) | (go_simp; with_reducible rfl)
                    try simp only [Act.put, List.setIfInBounds_toArray, List.set_cons_zero, List.set_cons_succ]
                    refine wpAnyH_ready (rs := [6, 15]) (by kernel_rfl) (by simp) ?_
                    refine AllReadyH.cons (o := ⟨_, _, _, _, _, _⟩) rfl (fun K hK => ?_) (AllReadyH.cons (o := ⟨_, _, _, _, _, _⟩) rfl (fun K hK => ?_) AllReadyH.nil)
                    · go_simp
                      refine any_stepC (fun wn1 hN => ?_)
                      have Bwn1 : Hid (Below wq.heap.size wq wn1) := Lib.hid (by rw [hN]; exact BD0.out.alloc BD0.out.size _)
                      have Rx : Hid (ChunksC (fun k => k < wn1.heap.size) wn1 (.slice (some ⟨wd.heap.size, 0, none⟩) 1 1) [d]) := Lib.hid (by rw [hN]; exact (chunks_one wd _ d (HBx.out _ BD0.out)).kept (fun k hk => ⟨by simpa using hk, rfl⟩))
                      obtain ⟨zx, hz⟩ : ∃ q, wd.heap.size = q := ⟨_, rfl⟩
                      rw [hz] at Rx ⊢
                      clear hN hz BD0
                      try go_wp2_with fail
                      refine hK.out _ _ (by exact HG.out _ (Hid.out (by assumption))) (fun hHeld => ?_)
                      clear hK K
                      try simp only [Act.put, List.setIfInBounds_toArray, List.set_cons_zero, List.set_cons_succ]
                      refine wpAnyH_ready (rs := [7, 15]) (by kernel_rfl) (by simp) ?_
                      refine AllReadyH.cons (o := ⟨_, _, _, _, _, _⟩) rfl (fun K hK => ?_) (AllReadyH.cons (o := ⟨_, _, _, _, _, _⟩) rfl (fun K hK => ?_) AllReadyH.nil)
                      · go_simp
                        refine (sum_any _ _ [d] wn1 (fun k hk => hk) Rx.out (by simp; omega) (by simp) (HEV.out _ (FN.out _ (TOQ.out _ Bwn1.out)))).mono ?_
                        rintro e wn2 ⟨rfl, hbs⟩
                        rw [show [d].flatten = d by simp, hO]
                        have Bwn2 : Hid (Below wq.heap.size wq wn2) := Lib.hid (Bwn1.out.trans (hbs.mono Bwn1.out.size))
                        clear hbs Bwn1 Rx
                        try go_wp2_with fail
                        refine hK.out _ _ (by exact HG.out _ (Hid.out (by assumption))) (fun hHeld => ?_)
                        clear hK K
                        try simp only [Act.put, List.setIfInBounds_toArray, List.set_cons_zero, List.set_cons_succ]
                        refine wpAnyH_ready (rs := [15]) (by kernel_rfl) (by simp) ?_
                        refine AllReadyH.cons (o := ⟨_, _, _, _, _, _⟩) rfl (fun K hK => ?_) AllReadyH.nil
                        go_simp
                        refine any_stepC (fun wn3 hN => ?_)
                        have Bwn3 : Hid (Below wq.heap.size wq wn3) := Lib.hid (by rw [hN]; exact Bwn2.out.alloc Bwn2.out.size _)
                        have Ry : Hid (ChunksC (fun k => k < wn3.heap.size) wn3 (.slice (some ⟨wn2.heap.size, 0, none⟩) 1 1) [d]) := Lib.hid (by rw [hN]; exact (chunks_one wn2 _ d (HBy.out _ Bwn2.out)).kept (fun k hk => ⟨by simpa using hk, rfl⟩))
                        obtain ⟨zy, hz⟩ : ∃ q, wn2.heap.size = q := ⟨_, rfl⟩
                        rw [hz] at Ry ⊢
                        clear hN hz Bwn2
                        try go_wp2_with fail
                        refine hK.out _ _ (by exact HG.out _ (Hid.out (by assumption))) (fun hHeld => ?_)
                        clear hK K
                        try simp only [Act.put, List.setIfInBounds_toArray, List.set_cons_zero, List.set_cons_succ]
                        refine wpAnyH_ready (rs := [16]) (by kernel_rfl) (by simp) ?_
                        refine AllReadyH.cons (o := ⟨_, _, _, _, _, _⟩) rfl (fun K hK => ?_) AllReadyH.nil
                        go_simp
                        refine (sum_any _ _ [d] wn3 (fun k hk => hk) Ry.out (by simp; omega) (by simp) (HEV.out _ (FN.out _ (TOQ.out _ Bwn3.out)))).mono ?_
                        rintro e wn4 ⟨rfl, hbs⟩
                        rw [show [d].flatten = d by simp, hO]
                        have Bwn4 : Hid (Below wq.heap.size wq wn4) := Lib.hid (Bwn3.out.trans (hbs.mono Bwn3.out.size))
                        clear hbs Bwn3 Ry
                        try go_wp2_with fail
                        refine hK.out _ _ (by exact HG.out _ (Hid.out (by assumption))) (fun hHeld => ?_)
                        clear hK K
                        try simp only [Act.put, List.setIfInBounds_toArray, List.set_cons_zero, List.set_cons_succ]
                        refine wpAnyH_take (i := 17) (oi := ⟨_, _, _, _, _, _⟩) (v := ?_) rfl (by kernel_rfl) (by kernel_rfl) (by kernel_rfl) (fun _ _ _ h => h) (Or.inl ⟨by rfl, ?_⟩) (by assumption) ?_
                        rotate_left
                        · intro w hSw; (try dsimp only at hSw); first | (go_simp; done) | (go_simp; with_reducible rfl)
                        try simp only [Act.put, List.setIfInBounds_toArray, List.set_cons_zero, List.set_cons_succ]
                        refine wpAnyH_take (i := 18) (oi := ⟨_, _, _, _, _, _⟩) (v := ?_) rfl (by kernel_rfl) (by kernel_rfl) (by kernel_rfl) (fun _ _ _ h => h) (Or.inl ⟨by rfl, ?_⟩) (by assumption) ?_
                        rotate_left
                        · intro w hSw; (try dsimp only at hSw); first | (go_simp; done) | (go_simp; with_reducible rfl)
                        try simp only [Act.put, List.setIfInBounds_toArray, List.set_cons_zero, List.set_cons_succ]
                        refine wpAnyH_take (i := 19) (oi := ⟨_, _, _, _, _, _⟩) (v := ?_) rfl (by kernel_rfl) (by kernel_rfl) (by kernel_rfl) (fun _ _ _ h => h) (Or.inl ⟨by rfl, ?_⟩) (by assumption) ?_
                        rotate_left
                        · intro w hSw; (try dsimp only at hSw); first | (go_simp; done) | (go_simp; with_reducible rfl)
                        try simp only [Act.put, List.setIfInBounds_toArray, List.set_cons_zero, List.set_cons_succ]
                        refine wpAnyH_take (i := 20) (oi := ⟨_, _, _, _, _, _⟩) (v := ?_) rfl (by kernel_rfl) (by kernel_rfl) (by kernel_rfl) (fun _ _ _ h => h) (Or.inl ⟨by rfl, ?_⟩) (by assumption) ?_
                        rotate_left
                        · intro w hSw; (try dsimp only at hSw); first | (go_simp; done) | (go_simp; with_reducible rfl)
                        try simp only [Act.put, List.setIfInBounds_toArray, List.set_cons_zero, List.set_cons_succ]
                        refine wpAnyH_take (i := 21) (oi := ⟨_, _, _, _, _, _⟩) (v := ?_) rfl (by kernel_rfl) (by kernel_rfl) (by kernel_rfl) (fun _ _ _ h => h) (Or.inl ⟨by rfl, ?_⟩) (by assumption) ?_
                        rotate_left
                        · intro w hSw; (try dsimp only at hSw); first | (go_simp; done) | (go_simp; with_reducible rfl)
                        try simp only [Act.put, List.setIfInBounds_toArray, List.set_cons_zero, List.set_cons_succ]
                        refine wpAnyH_take (i := 22) (oi := ⟨_, _, _, _, _, _⟩) (v := ?_) rfl (by kernel_rfl) (by kernel_rfl) (by kernel_rfl) (fun _ _ _ h => h) (Or.inl ⟨by rfl, ?_⟩) (by assumption) ?_
                        rotate_left
                        · intro w hSw; (try dsimp only at hSw); first | (go_simp; done) | (go_simp; with_reducible rfl)
                        try simp only [Act.put, List.setIfInBounds_toArray, List.set_cons_zero, List.set_cons_succ]
                        refine wpAnyH_take (i := 23) (oi := ⟨_, _, _, _, _, _⟩) (v := ?_) rfl (by kernel_rfl) (by kernel_rfl) (by kernel_rfl) (fun _ _ _ h => h) (Or.inl ⟨by rfl, ?_⟩) (by assumption) ?_
                        rotate_left
                        · intro w hSw; (try dsimp only at hSw); first | (go_simp; done) | (go_simp; with_reducible rfl)
                        try simp only [Act.put, List.setIfInBounds_toArray, List.set_cons_zero, List.set_cons_succ]
                        refine wpAnyH_take (i := 24) (oi := ⟨_, _, _, _, _, _⟩) (v := ?_) rfl (by kernel_rfl) (by kernel_rfl) (by kernel_rfl) (fun _ _ _ h => h) (Or.inl ⟨by rfl, ?_⟩) (by assumption) ?_
                        rotate_left
                        · intro w hSw; (try dsimp only at hSw); first | (go_simp; done) | (go_simp; with_reducible rfl)
                        try simp only [Act.put, List.setIfInBounds_toArray, List.set_cons_zero, List.set_cons_succ]
                        refine wpAnyH_take (i := 25) (oi := ⟨_, _, _, _, _, _⟩) (v := ?_) rfl (by kernel_rfl) (by kernel_rfl) (by kernel_rfl) (fun _ _ _ h => h) (Or.inl ⟨by rfl, ?_⟩) (by assumption) ?_
                        rotate_left
                        · intro w hSw; (try dsimp only at hSw); first | (go_simp; done) | (go_simp; with_reducible rfl)
                        try simp only [Act.put, List.setIfInBounds_toArray, List.set_cons_zero, List.set_cons_succ]
                        refine wpAnyH_take (i := 26) (oi := ⟨_, _, _, _, _, _⟩) (v := ?_) rfl (by kernel_rfl) (by kernel_rfl) (by kernel_rfl) (fun _ _ _ h => h) (Or.inl ⟨by rfl, ?_⟩) (by assumption) ?_
                        rotate_left
                        · intro w hSw; (try dsimp only at hSw); first | (go_simp; done) | (go_simp; with_reducible rfl)
                        try simp only [Act.put, List.setIfInBounds_toArray, List.set_cons_zero, List.set_cons_succ]
                        refine wpAnyH_take (i := 27) (oi := ⟨_, _, _, _, _, _⟩) (v := ?_) rfl (by kernel_rfl) (by kernel_rfl) (by kernel_rfl) (fun _ _ _ h => h) (Or.inl ⟨by rfl, ?_⟩) (by assumption) ?_
                        rotate_left
                        · intro w hSw; (try dsimp only at hSw); first | (go_simp; done) | (go_simp; with_reducible rfl)
                        try simp only [Act.put, List.setIfInBounds_toArray, List.set_cons_zero, List.set_cons_succ]
                        refine wpAnyH_take (i := 28) (oi := ⟨_, _, _, _, _, _⟩) (v := ?_) rfl (by kernel_rfl) (by kernel_rfl) (by kernel_rfl) (fun _ _ _ h => h) (Or.inl ⟨by rfl, ?_⟩) (by assumption) ?_
                        rotate_left
                        · intro w hSw; (try dsimp only at hSw); first | (go_simp; done) | (go_simp; with_reducible rfl)
                        try simp only [Act.put, List.setIfInBounds_toArray, List.set_cons_zero, List.set_cons_succ]
                        refine wpAnyH_take (i := 29) (oi := ⟨_, _, _, _, _, _⟩) (v := ?_) rfl (by kernel_rfl) (by kernel_rfl) (by kernel_rfl) (fun _ _ _ h => h) (Or.inl ⟨by rfl, ?_⟩) (by assumption) ?_
                        rotate_left
                        · intro w hSw; (try dsimp only at hSw); first | (go_simp; done) | (go_simp; with_reducible rfl)
                        try simp only [Act.put, List.setIfInBounds_toArray, List.set_cons_zero, List.set_cons_succ]
                        refine wpAnyH_take (i := 30) (oi := ⟨_, _, _, _, _, _⟩) (v := ?_) rfl (by kernel_rfl) (by kernel_rfl) (by kernel_rfl) (fun _ _ _ h => h) (Or.inl ⟨by rfl, ?_⟩) (by assumption) ?_
                        rotate_left
                        · intro w hSw; (try dsimp only at hSw); first | (go_simp; done) | (go_simp; with_reducible rfl)
                        try simp only [Act.put, List.setIfInBounds_toArray, List.set_cons_zero, List.set_cons_succ]
                        refine wpAnyH_take (i := 31) (oi := ⟨_, _, _, _, _, _⟩) (v := ?_) rfl (by kernel_rfl) (by kernel_rfl) (by kernel_rfl) (fun _ _ _ h => h) (Or.inl ⟨by rfl, ?_⟩) (by assumption) ?_
                        rotate_left
                        · intro w hSw; (try dsimp only at hSw); first | (go_simp; done) | (go_simp; with_reducible rfl)
                        try simp only [Act.put, List.setIfInBounds_toArray, List.set_cons_zero, List.set_cons_succ]
                        refine wpAnyH_take (i := 32) (oi := ⟨_, _, _, _, _, _⟩) (v := ?_) rfl (by kernel_rfl) (by kernel_rfl) (by kernel_rfl) (fun _ _ _ h => h) (Or.inl ⟨by rfl, ?_⟩) (by assumption) ?_
                        rotate_left
                        · intro w hSw; (try dsimp only at hSw); first | (go_simp; done) | (go_simp; with_reducible rfl)
                        try simp only [Act.put, List.setIfInBounds_toArray, List.set_cons_zero, List.set_cons_succ]
                        refine wpAnyH_take (i := 33) (oi := ⟨_, _, _, _, _, _⟩) (v := ?_) rfl (by kernel_rfl) (by kernel_rfl) (by kernel_rfl) (fun _ _ _ h => h) (Or.inl ⟨by rfl, ?_⟩) (by assumption) ?_
                        rotate_left
                        · intro w hSw; (try dsimp only at hSw); first | (go_simp; done) | (go_simp; with_reducible rfl)
                        try simp only [Act.put, List.setIfInBounds_toArray, List.set_cons_zero, List.set_cons_succ]
                        refine wpAnyH_take (i := 34) (oi := ⟨_, _, _, _, _, _⟩) (v := ?_) rfl (by kernel_rfl) (by kernel_rfl) (by kernel_rfl) (fun _ _ _ h => h) (Or.inl ⟨by rfl, ?_⟩) (by assumption) ?_
                        rotate_left
                        · intro w hSw; (try dsimp only at hSw); first | (go_simp; done) | (go_simp; with_reducible rfl)
                        try simp only [Act.put, List.setIfInBounds_toArray, List.set_cons_zero, List.set_cons_succ]
                        refine wpAnyH_take (i := 35) (oi := ⟨_, _, _, _, _, _⟩) (v := ?_) rfl (by kernel_rfl) (by kernel_rfl) (by kernel_rfl) (fun _ _ _ h => h) (Or.inl ⟨by rfl, ?_⟩) (by assumption) ?_
                        rotate_left
                        · intro w hSw; (try dsimp only at hSw); first | (go_simp; done) | (go_simp; with_reducible rfl)
                        try simp only [Act.put, List.setIfInBounds_toArray, List.set_cons_zero, List.set_cons_succ]
                        refine wpAnyH_done (by kernel_rfl) ?_ _
                        clear hHeld w1 w2 w3 w4' w5' w6 v1 v2 v3 hneq hgd
                        go_wp2_with fail
                        go_roundw
                        case rel => exact ⟨q + 1, by omega, by go_num, Lib.hid (hV.out.trans (Bwn4.out.mono hV.out.size))⟩
                        case measure => simp [intOf]; omega
                      · go_simp
                        refine any_stepC (fun wn5 hN => ?_)
                        have Bwn5 : Hid (Below wq.heap.size wq wn5) := Lib.hid (by rw [hN]; exact Bwn1.out.alloc Bwn1.out.size _)
                        have Ry : Hid (ChunksC (fun k => k < wn5.heap.size) wn5 (.slice (some ⟨wn1.heap.size, 0, none⟩) 1 1) [d]) := Lib.hid (by rw [hN]; exact (chunks_one wn1 _ d (HBy.out _ Bwn1.out)).kept (fun k hk => ⟨by simpa using hk, rfl⟩))
                        have Rx' : Hid (ChunksC (fun k => k < wn5.heap.size) wn5 (.slice (some ⟨zx, 0, none⟩) 1 1) [d]) := Lib.hid (by rw [hN]; exact Rx.out.kept (fun k hk => ⟨by simp; omega, Below.heap_alloc _ _ _ hk⟩))
                        clear Rx
                        have Rx := Rx'
                        clear Rx'
                        obtain ⟨zy, hz⟩ : ∃ q, wn1.heap.size = q := ⟨_, rfl⟩
                        rw [hz] at Ry ⊢
                        clear hN hz Bwn1
                        try go_wp2_with fail
                        refine hK.out _ _ (by exact HG.out _ (Hid.out (by assumption))) (fun hHeld => ?_)
                        clear hK K
                        try simp only [Act.put, List.setIfInBounds_toArray, List.set_cons_zero, List.set_cons_succ]
                        refine wpAnyH_ready (rs := [7]) (by kernel_rfl) (by simp) ?_
                        refine AllReadyH.cons (o := ⟨_, _, _, _, _, _⟩) rfl (fun K hK => ?_) AllReadyH.nil
                        go_simp
                        refine (sum_any _ _ [d] wn5 (fun k hk => hk) Rx.out (by simp; omega) (by simp) (HEV.out _ (FN.out _ (TOQ.out _ Bwn5.out)))).mono ?_
                        rintro e wn6 ⟨rfl, hbs⟩
                        rw [show [d].flatten = d by simp, hO]
                        have Bwn6 : Hid (Below wq.heap.size wq wn6) := Lib.hid (Bwn5.out.trans (hbs.mono Bwn5.out.size))
                        have Ry' : Hid (ChunksC (fun k => k < wn6.heap.size) wn6 (.slice (some ⟨zy, 0, none⟩) 1 1) [d]) := Lib.hid (Ry.out.kept (fun k hk => ⟨Nat.lt_of_lt_of_le hk hbs.size, hbs.block k hk⟩))
                        clear Ry
                        have Ry := Ry'
                        clear Ry'
                        clear hbs Bwn5 Rx
                        try go_wp2_with fail
                        refine hK.out _ _ (by exact HG.out _ (Hid.out (by assumption))) (fun hHeld => ?_)
                        clear hK K
                        try simp only [Act.put, List.setIfInBounds_toArray, List.set_cons_zero, List.set_cons_succ]
                        refine wpAnyH_ready (rs := [16]) (by kernel_rfl) (by simp) ?_
                        refine AllReadyH.cons (o := ⟨_, _, _, _, _, _⟩) rfl (fun K hK => ?_) AllReadyH.nil
                        go_simp
                        refine (sum_any _ _ [d] wn6 (fun k hk => hk) Ry.out (by simp; omega) (by simp) (HEV.out _ (FN.out _ (TOQ.out _ Bwn6.out)))).mono ?_
                        rintro e wn7 ⟨rfl, hbs⟩
                        rw [show [d].flatten = d by simp, hO]
                        have Bwn7 : Hid (Below wq.heap.size wq wn7) := Lib.hid (Bwn6.out.trans (hbs.mono Bwn6.out.size))
                        clear hbs Bwn6 Ry
                        try go_wp2_with fail
                        refine hK.out _ _ (by exact HG.out _ (Hid.out (by assumption))) (fun hHeld => ?_)
                        clear hK K
                        try simp only [Act.put, List.setIfInBounds_toArray, List.set_cons_zero, List.set_cons_succ]
                        refine wpAnyH_take (i := 17) (oi := ⟨_, _, _, _, _, _⟩) (v := ?_) rfl (by kernel_rfl) (by kernel_rfl) (by kernel_rfl) (fun _ _ _ h => h) (Or.inl ⟨by rfl, ?_⟩) (by assumption) ?_
                        rotate_left
                        · intro w hSw; (try dsimp only at hSw); first | (go_simp; done) | (go_simp; with_reducible rfl)
                        try simp only [Act.put, List.setIfInBounds_toArray, List.set_cons_zero, List.set_cons_succ]
                        refine wpAnyH_take (i := 18) (oi := ⟨_, _, _, _, _, _⟩) (v := ?_) rfl (by kernel_rfl) (by kernel_rfl) (by kernel_rfl) (fun _ _ _ h => h) (Or.inl ⟨by rfl, ?_⟩) (by assumption) ?_
                        rotate_left
                        · intro w hSw; (try dsimp only at hSw); first | (go_simp; done) | (go_simp; with_reducible rfl)
                        try simp only [Act.put, List.setIfInBounds_toArray, List.set_cons_zero, List.set_cons_succ]
                        refine wpAnyH_take (i := 19) (oi := ⟨_, _, _, _, _, _⟩) (v := ?_) rfl (by kernel_rfl) (by kernel_rfl) (by kernel_rfl) (fun _ _ _ h => h) (Or.inl ⟨by rfl, ?_⟩) (by assumption) ?_
                        rotate_left
                        · intro w hSw; (try dsimp only at hSw); first | (go_simp; done) | (go_simp; with_reducible rfl)
                        try simp only [Act.put, List.setIfInBounds_toArray, List.set_cons_zero, List.set_cons_succ]
                        refine wpAnyH_take (i := 20) (oi := ⟨_, _, _, _, _, _⟩) (v := ?_) rfl (by kernel_rfl) (by kernel_rfl) (by kernel_rfl) (fun _ _ _ h => h) (Or.inl ⟨by rfl, ?_⟩) (by assumption) ?_
                        rotate_left
                        · intro w hSw; (try dsimp only at hSw); first | (go_simp; done) | (go_simp; with_reducible rfl)
                        try simp only [Act.put, List.setIfInBounds_toArray, List.set_cons_zero, List.set_cons_succ]
                        refine wpAnyH_take (i := 21) (oi := ⟨_, _, _, _, _, _⟩) (v := ?_) rfl (by kernel_rfl) (by kernel_rfl) (by kernel_rfl) (fun _ _ _ h => h) (Or.inl ⟨by rfl, ?_⟩) (by assumption) ?_
                        rotate_left
                        · intro w hSw; (try dsimp only at hSw); first | (go_simp; done) | (go_simp; with_reducible rfl)
                        try simp only [Act.put, List.setIfInBounds_toArray, List.set_cons_zero, List.set_cons_succ]
                        refine wpAnyH_take (i := 22) (oi := ⟨_, _, _, _, _, _⟩) (v := ?_) rfl (by kernel_rfl) (by kernel_rfl) (by kernel_rfl) (fun _ _ _ h => h) (Or.inl ⟨by rfl, ?_⟩) (by assumption) ?_
                        rotate_left
                        · intro w hSw; (try dsimp only at hSw); first | (go_simp; done) | (go_simp; with_reducible rfl)
                        try simp only [Act.put, List.setIfInBounds_toArray, List.set_cons_zero, List.set_cons_succ]
                        refine wpAnyH_take (i := 23) (oi := ⟨_, _, _, _, _, _⟩) (v := ?_) rfl (by kernel_rfl) (by kernel_rfl) (by kernel_rfl) (fun _ _ _ h => h) (Or.inl ⟨by rfl, ?_⟩) (by assumption) ?_
                        rotate_left
                        · intro w hSw; (try dsimp only at hSw); first | (go_simp; done) | (go_simp; with_reducible rfl)
                        try simp only [Act.put, List.setIfInBounds_toArray, List.set_cons_zero, List.set_cons_succ]
                        refine wpAnyH_take (i := 24) (oi := ⟨_, _, _, _, _, _⟩) (v := ?_) rfl (by kernel_rfl) (by kernel_rfl) (by kernel_rfl) (fun _ _ _ h => h) (Or.inl ⟨by rfl, ?_⟩) (by assumption) ?_
                        rotate_left
                        · intro w hSw; (try dsimp only at hSw); first | (go_simp; done) | (go_simp; with_reducible rfl)
                        try simp only [Act.put, List.setIfInBounds_toArray, List.set_cons_zero, List.set_cons_succ]
                        refine wpAnyH_take (i := 25) (oi := ⟨_, _, _, _, _, _⟩) (v := ?_) rfl (by kernel_rfl) (by kernel_rfl) (by kernel_rfl) (fun _ _ _ h => h) (Or.inl ⟨by rfl, ?_⟩) (by assumption) ?_
                        rotate_left
                        · intro w hSw; (try dsimp only at hSw); first | (go_simp; done) | (go_simp; with_reducible rfl)
                        try simp only [Act.put, List.setIfInBounds_toArray, List.set_cons_zero, List.set_cons_succ]
                        refine wpAnyH_take (i := 26) (oi := ⟨_, _, _, _, _, _⟩) (v := ?_) rfl (by kernel_rfl) (by kernel_rfl) (by kernel_rfl) (fun _ _ _ h => h) (Or.inl ⟨by rfl, ?_⟩) (by assumption) ?_
                        rotate_left
                        · intro w hSw; (try dsimp only at hSw); first | (go_simp; done) | (go_simp; with_reducible rfl)
                        try simp only [Act.put, List.setIfInBounds_toArray, List.set_cons_zero, List.set_cons_succ]
                        refine wpAnyH_take (i := 27) (oi := ⟨_, _, _, _, _, _⟩) (v := ?_) rfl (by kernel_rfl) (by kernel_rfl) (by kernel_rfl) (fun _ _ _ h => h) (Or.inl ⟨by rfl, ?_⟩) (by assumption) ?_
                        rotate_left
                        · intro w hSw; (try dsimp only at hSw); first | (go_simp; done) | (go_simp; with_reducible rfl)
                        try simp only [Act.put, List.setIfInBounds_toArray, List.set_cons_zero, List.set_cons_succ]
                        refine wpAnyH_take (i := 28) (oi := ⟨_, _, _, _, _, _⟩) (v := ?_) rfl (by kernel_rfl) (by kernel_rfl) (by kernel_rfl) (fun _ _ _ h => h) (Or.inl ⟨by rfl, ?_⟩) (by assumption) ?_
                        rotate_left
                        · intro w hSw; (try dsimp only at hSw); first | (go_simp; done) | (go_simp; with_reducible rfl)
                        try simp only [Act.put, List.setIfInBounds_toArray, List.set_cons_zero, List.set_cons_succ]
                        refine wpAnyH_take (i := 29) (oi := ⟨_, _, _, _, _, _⟩) (v := ?_) rfl (by kernel_rfl) (by kernel_rfl) (by kernel_rfl) (fun _ _ _ h => h) (Or.inl ⟨by rfl, ?_⟩) (by assumption) ?_
                        rotate_left
                        · intro w hSw; (try dsimp only at hSw); first | (go_simp; done) | (go_simp; with_reducible rfl)
                        try simp only [Act.put, List.setIfInBounds_toArray, List.set_cons_zero, List.set_cons_succ]
                        refine wpAnyH_take (i := 30) (oi := ⟨_, _, _, _, _, _⟩) (v := ?_) rfl (by kernel_rfl) (by kernel_rfl) (by kernel_rfl) (fun _ _ _ h => h) (Or.inl ⟨by rfl, ?_⟩) (by assumption) ?_
                        rotate_left
                        · intro w hSw; (try dsimp only at hSw); first | (go_simp; done) | (go_simp; with_reducible rfl)
                        try simp only [Act.put, List.setIfInBounds_toArray, List.set_cons_zero, List.set_cons_succ]
                        refine wpAnyH_take (i := 31) (oi := ⟨_, _, _, _, _, _⟩) (v := ?_) rfl (by kernel_rfl) (by kernel_rfl) (by kernel_rfl) (fun _ _ _ h => h) (Or.inl ⟨by rfl, ?_⟩) (by assumption) ?_
                        rotate_left
                        · intro w hSw; (try dsimp only at hSw); first | (go_simp; done) | (go_simp; with_reducible rfl)
                        try simp only [Act.put, List.setIfInBounds_toArray, List.set_cons_zero, List.set_cons_succ]
                        refine wpAnyH_take (i := 32) (oi := ⟨_, _, _, _, _, _⟩) (v := ?_) rfl (by kernel_rfl) (by kernel_rfl) (by kernel_rfl) (fun _ _ _ h => h) (Or.inl ⟨by rfl, ?_⟩) (by assumption) ?_
                        rotate_left
                        · intro w hSw; (try dsimp only at hSw); first | (go_simp; done) | (go_simp; with_reducible rfl)
                        try simp only [Act.put, List.setIfInBounds_toArray, List.set_cons_zero, List.set_cons_succ]
                        refine wpAnyH_take (i := 33) (oi := ⟨_, _, _, _, _, _⟩) (v := ?_) rfl (by kernel_rfl) (by kernel_rfl) (by kernel_rfl) (fun _ _ _ h => h) (Or.inl ⟨by rfl, ?_⟩) (by assumption) ?_
                        rotate_left
                        · intro w hSw; (try dsimp only at hSw); first | (go_simp; done) | (go_simp; with_reducible rfl)
                        try simp only [Act.put, List.setIfInBounds_toArray, List.set_cons_zero, List.set_cons_succ]
                        refine wpAnyH_take (i := 34) (oi := ⟨_, _, _, _, _, _⟩) (v := ?_) rfl (by kernel_rfl) (by kernel_rfl) (by kernel_rfl) (fun _ _ _ h => h) (Or.inl ⟨by rfl, ?_⟩) (by assumption) ?_
                        rotate_left
                        · intro w hSw; (try dsimp only at hSw); first | (go_simp; done) | (go_simp; with_reducible rfl)
                        try simp only [Act.put, List.setIfInBounds_toArray, List.set_cons_zero, List.set_cons_succ]
                        refine wpAnyH_take (i := 35) (oi := ⟨_, _, _, _, _, _⟩) (v := ?_) rfl (by kernel_rfl) (by kernel_rfl) (by kernel_rfl) (fun _ _ _ h => h) (Or.inl ⟨by rfl, ?_⟩) (by assumption) ?_
                        rotate_left
                        · intro w hSw; (try dsimp only at hSw); first | (go_simp; done) | (go_simp; with_reducible rfl)
                        try simp only [Act.put, List.setIfInBounds_toArray, List.set_cons_zero, List.set_cons_succ]
                        refine wpAnyH_done (by kernel_rfl) ?_ _
                        clear hHeld w1 w2 w3 w4' w5' w6 v1 v2 v3 hneq hgd
                        go_wp2_with fail
                        go_roundw
                        case rel => exact ⟨q + 1, by omega, by go_num, Lib.hid (hV.out.trans (Bwn7.out.mono hV.out.size))⟩
                        case measure => simp [intOf]; omega
                    · go_simp
                      refine any_stepC (fun wn8 hN => ?_)
                      have Bwn8 : Hid (Below wq.heap.size wq wn8) := Lib.hid (by rw [hN]; exact BD0.out.alloc BD0.out.size _)
                      have Ry : Hid (ChunksC (fun k => k < wn8.heap.size) wn8 (.slice (some ⟨wd.heap.size, 0, none⟩) 1 1) [d]) := Lib.hid (by rw [hN]; exact (chunks_one wd _ d (HBy.out _ BD0.out)).kept (fun k hk => ⟨by simpa using hk, rfl⟩))
                      obtain ⟨zy, hz⟩ : ∃ q, wd.heap.size = q := ⟨_, rfl⟩
                      rw [hz] at Ry ⊢
                      clear hN hz BD0
                      try go_wp2_with fail
                      refine hK.out _ _ (by exact HG.out _ (Hid.out (by assumption))) (fun hHeld => ?_)
                      clear hK K
                      try simp only [Act.put, List.setIfInBounds_toArray, List.set_cons_zero, List.set_cons_succ]
                      refine wpAnyH_ready (rs := [6]) (by kernel_rfl) (by simp) ?_
                      refine AllReadyH.cons (o := ⟨_, _, _, _, _, _⟩) rfl (fun K hK => ?_) AllReadyH.nil
                      go_simp
                      refine any_stepC (fun wn9 hN => ?_)
                      have Bwn9 : Hid (Below wq.heap.size wq wn9) := Lib.hid (by rw [hN]; exact Bwn8.out.alloc Bwn8.out.size _)
                      have Rx : Hid (ChunksC (fun k => k < wn9.heap.size) wn9 (.slice (some ⟨wn8.heap.size, 0, none⟩) 1 1) [d]) := Lib.hid (by rw [hN]; exact (chunks_one wn8 _ d (HBx.out _ Bwn8.out)).kept (fun k hk => ⟨by simpa using hk, rfl⟩))
                      have Ry' : Hid (ChunksC (fun k => k < wn9.heap.size) wn9 (.slice (some ⟨zy, 0, none⟩) 1 1) [d]) := Lib.hid (by rw [hN]; exact Ry.out.kept (fun k hk => ⟨by simp; omega, Below.heap_alloc _ _ _ hk⟩))
                      clear Ry
                      have Ry := Ry'
                      clear Ry'
                      obtain ⟨zx, hz⟩ : ∃ q, wn8.heap.size = q := ⟨_, rfl⟩
                      rw [hz] at Rx ⊢
                      clear hN hz Bwn8
                      try go_wp2_with fail
                      refine hK.out _ _ (by exact HG.out _ (Hid.out (by assumption))) (fun hHeld => ?_)
                      clear hK K
                      try simp only [Act.put, List.setIfInBounds_toArray, List.set_cons_zero, List.set_cons_succ]
                      refine wpAnyH_ready (rs := [7]) (by kernel_rfl) (by simp) ?_
                      refine AllReadyH.cons (o := ⟨_, _, _, _, _, _⟩) rfl (fun K hK => ?_) AllReadyH.nil
                      go_simp
                      refine (sum_any _ _ [d] wn9 (fun k hk => hk) Rx.out (by simp; omega) (by simp) (HEV.out _ (FN.out _ (TOQ.out _ Bwn9.out)))).mono ?_
                      rintro e wn10 ⟨rfl, hbs⟩
                      rw [show [d].flatten = d by simp, hO]
                      have Bwn10 : Hid (Below wq.heap.size wq wn10) := Lib.hid (Bwn9.out.trans (hbs.mono Bwn9.out.size))
                      have Ry' : Hid (ChunksC (fun k => k < wn10.heap.size) wn10 (.slice (some ⟨zy, 0, none⟩) 1 1) [d]) := Lib.hid (Ry.out.kept (fun k hk => ⟨Nat.lt_of_lt_of_le hk hbs.size, hbs.block k hk⟩))
                      clear Ry
                      have Ry := Ry'
                      clear Ry'
                      clear hbs Bwn9 Rx
                      try go_wp2_with fail
                      refine hK.out _ _ (by exact HG.out _ (Hid.out (by assumption))) (fun hHeld => ?_)
                      clear hK K
                      try simp only [Act.put, List.setIfInBounds_toArray, List.set_cons_zero, List.set_cons_succ]
                      refine wpAnyH_ready (rs := [16]) (by kernel_rfl) (by simp) ?_
                      refine AllReadyH.cons (o := ⟨_, _, _, _, _, _⟩) rfl (fun K hK => ?_) AllReadyH.nil
                      go_simp
                      refine (sum_any _ _ [d] wn10 (fun k hk => hk) Ry.out (by simp; omega) (by simp) (HEV.out _ (FN.out _ (TOQ.out _ Bwn10.out)))).mono ?_
                      rintro e wn11 ⟨rfl, hbs⟩
                      rw [show [d].flatten = d by simp, hO]
                      have Bwn11 : Hid (Below wq.heap.size wq wn11) := Lib.hid (Bwn10.out.trans (hbs.mono Bwn10.out.size))
                      clear hbs Bwn10 Ry
                      try go_wp2_with fail
                      refine hK.out _ _ (by exact HG.out _ (Hid.out (by assumption))) (fun hHeld => ?_)
                      clear hK K
                      try simp only [Act.put, List.setIfInBounds_toArray, List.set_cons_zero, List.set_cons_succ]
                      refine wpAnyH_take (i := 17) (oi := ⟨_, _, _, _, _, _⟩) (v := ?_) rfl (by kernel_rfl) (by kernel_rfl) (by kernel_rfl) (fun _ _ _ h => h) (Or.inl ⟨by rfl, ?_⟩) (by assumption) ?_
                      rotate_left
                      · intro w hSw; (try dsimp only at hSw); first | (go_simp; done) | (go_simp; with_reducible rfl)
                      try simp only [Act.put, List.setIfInBounds_toArray, List.set_cons_zero, List.set_cons_succ]
                      refine wpAnyH_take (i := 18) (oi := ⟨_, _, _, _, _, _⟩) (v := ?_) rfl (by kernel_rfl) (by kernel_rfl) (by kernel_rfl) (fun _ _ _ h => h) (Or.inl ⟨by rfl, ?_⟩) (by assumption) ?_
                      rotate_left
                      · intro w hSw; (try dsimp only at hSw); first | (go_simp; done) | (go_simp; with_reducible rfl)
                      try simp only [Act.put, List.setIfInBounds_toArray, List.set_cons_zero, List.set_cons_succ]
                      refine wpAnyH_take (i := 19) (oi := ⟨_, _, _, _, _, _⟩) (v := ?_) rfl (by kernel_rfl) (by kernel_rfl) (by kernel_rfl) (fun _ _ _ h => h) (Or.inl ⟨by rfl, ?_⟩) (by assumption) ?_
                      rotate_left
                      · intro w hSw; (try dsimp only at hSw); first | (go_simp; done) | (go_simp; with_reducible rfl)
                      try simp only [Act.put, List.setIfInBounds_toArray, List.set_cons_zero, List.set_cons_succ]
                      refine wpAnyH_take (i := 20) (oi := ⟨_, _, _, _, _, _⟩) (v := ?_) rfl (by kernel_rfl) (by kernel_rfl) (by kernel_rfl) (fun _ _ _ h => h) (Or.inl ⟨by rfl, ?_⟩) (by assumption) ?_
                      rotate_left
                      · intro w hSw; (try dsimp only at hSw); first | (go_simp; done) | (go_simp; with_reducible rfl)
                      try simp only [Act.put, List.setIfInBounds_toArray, List.set_cons_zero, List.set_cons_succ]
                      refine wpAnyH_take (i := 21) (oi := ⟨_, _, _, _, _, _⟩) (v := ?_) rfl (by kernel_rfl) (by kernel_rfl) (by kernel_rfl) (fun _ _ _ h => h) (Or.inl ⟨by rfl, ?_⟩) (by assumption) ?_
                      rotate_left
                      · intro w hSw; (try dsimp only at hSw); first | (go_simp; done) | (go_simp; with_reducible rfl)
                      try simp only [Act.put, List.setIfInBounds_toArray, List.set_cons_zero, List.set_cons_succ]
                      refine wpAnyH_take (i := 22) (oi := ⟨_, _, _, _, _, _⟩) (v := ?_) rfl (by kernel_rfl) (by kernel_rfl) (by kernel_rfl) (fun _ _ _ h => h) (Or.inl ⟨by rfl, ?_⟩) (by assumption) ?_
                      rotate_left
                      · intro w hSw; (try dsimp only at hSw); first | (go_simp; done) | (go_simp; with_reducible rfl)
                      try simp only [Act.put, List.setIfInBounds_toArray, List.set_cons_zero, List.set_cons_succ]
                      refine wpAnyH_take (i := 23) (oi := ⟨_, _, _, _, _, _⟩) (v := ?_) rfl (by kernel_rfl) (by kernel_rfl) (by kernel_rfl) (fun _ _ _ h => h) (Or.inl ⟨by rfl, ?_⟩) (by assumption) ?_
                      rotate_left
                      · intro w hSw; (try dsimp only at hSw); first | (go_simp; done) | (go_simp; with_reducible rfl)
                      try simp only [Act.put, List.setIfInBounds_toArray, List.set_cons_zero, List.set_cons_succ]
                      refine wpAnyH_take (i := 24) (oi := ⟨_, _, _, _, _, _⟩) (v := ?_) rfl (by kernel_rfl) (by kernel_rfl) (by kernel_rfl) (fun _ _ _ h => h) (Or.inl ⟨by rfl, ?_⟩) (by assumption) ?_
                      rotate_left
                      · intro w hSw; (try dsimp only at hSw); first | (go_simp; done) | (go_simp; with_reducible rfl)
                      try simp only [Act.put, List.setIfInBounds_toArray, List.set_cons_zero, List.set_cons_succ]
                      refine wpAnyH_take (i := 25) (oi := ⟨_, _, _, _, _, _⟩) (v := ?_) rfl (by kernel_rfl) (by kernel_rfl) (by kernel_rfl) (fun _ _ _ h => h) (Or.inl ⟨by rfl, ?_⟩) (by assumption) ?_
                      rotate_left
                      · intro w hSw; (try dsimp only at hSw); first | (go_simp; done) | (go_simp; with_reducible rfl)
                      try simp only [Act.put, List.setIfInBounds_toArray, List.set_cons_zero, List.set_cons_succ]
                      refine wpAnyH_take (i := 26) (oi := ⟨_, _, _, _, _, _⟩) (v := ?_) rfl (by kernel_rfl) (by kernel_rfl) (by kernel_rfl) (fun _ _ _ h => h) (Or.inl ⟨by rfl, ?_⟩) (by assumption) ?_
                      rotate_left
                      · intro w hSw; (try dsimp only at hSw); first | (go_simp; done) | (go_simp; with_reducible rfl)
                      try simp only [Act.put, List.setIfInBounds_toArray, List.set_cons_zero, List.set_cons_succ]
                      refine wpAnyH_take (i := 27) (oi := ⟨_, _, _, _, _, _⟩) (v := ?_) rfl (by kernel_rfl) (by kernel_rfl) (by kernel_rfl) (fun _ _ _ h => h) (Or.inl ⟨by rfl, ?_⟩) (by assumption) ?_
                      rotate_left
                      · intro w hSw; (try dsimp only at hSw); first | (go_simp; done) | (go_simp; with_reducible rfl)
                      try simp only [Act.put, List.setIfInBounds_toArray, List.set_cons_zero, List.set_cons_succ]
                      refine wpAnyH_take (i := 28) (oi := ⟨_, _, _, _, _, _⟩) (v := ?_) rfl (by kernel_rfl) (by kernel_rfl) (by kernel_rfl) (fun _ _ _ h => h) (Or.inl ⟨by rfl, ?_⟩) (by assumption) ?_
                      rotate_left
                      · intro w hSw; (try dsimp only at hSw); first | (go_simp; done) | (go_simp; with_reducible rfl)
                      try simp only [Act.put, List.setIfInBounds_toArray, List.set_cons_zero, List.set_cons_succ]
                      refine wpAnyH_take (i := 29) (oi := ⟨_, _, _, _, _, _⟩) (v := ?_) rfl (by kernel_rfl) (by kernel_rfl) (by kernel_rfl) (fun _ _ _ h => h) (Or.inl ⟨by rfl, ?_⟩) (by assumption) ?_
                      rotate_left
                      · intro w hSw; (try dsimp only at hSw); first | (go_simp; done) | (go_simp; with_reducible rfl)
                      try simp only [Act.put, List.setIfInBounds_toArray, List.set_cons_zero, List.set_cons_succ]
                      refine wpAnyH_take (i := 30) (oi := ⟨_, _, _, _, _, _⟩) (v := ?_) rfl (by kernel_rfl) (by kernel_rfl) (by kernel_rfl) (fun _ _ _ h => h) (Or.inl ⟨by rfl, ?_⟩) (by assumption) ?_
                      rotate_left
                      · intro w hSw; (try dsimp only at hSw); first | (go_simp; done) | (go_simp; with_reducible rfl)
                      try simp only [Act.put, List.setIfInBounds_toArray, List.set_cons_zero, List.set_cons_succ]
                      refine wpAnyH_take (i := 31) (oi := ⟨_, _, _, _, _, _⟩) (v := ?_) rfl (by kernel_rfl) (by kernel_rfl) (by kernel_rfl) (fun _ _ _ h => h) (Or.inl ⟨by rfl, ?_⟩) (by assumption) ?_
                      rotate_left
                      · intro w hSw; (try dsimp only at hSw); first | (go_simp; done) | (go_simp; with_reducible rfl)
                      try simp only [Act.put, List.setIfInBounds_toArray, List.set_cons_zero, List.set_cons_succ]
                      refine wpAnyH_take (i := 32) (oi := ⟨_, _, _, _, _, _⟩) (v := ?_) rfl (by kernel_rfl) (by kernel_rfl) (by kernel_rfl) (fun _ _ _ h => h) (Or.inl ⟨by rfl, ?_⟩) (by assumption) ?_
                      rotate_left
                      · intro w hSw; (try dsimp only at hSw); first | (go_simp; done) | (go_simp; with_reducible rfl)
                      try simp only [Act.put, List.setIfInBounds_toArray, List.set_cons_zero, List.set_cons_succ]
                      refine wpAnyH_take (i := 33) (oi := ⟨_, _, _, _, _, _⟩) (v := ?_) rfl (by kernel_rfl) (by kernel_rfl) (by kernel_rfl) (fun _ _ _ h => h) (Or.inl ⟨by rfl, ?_⟩) (by assumption) ?_
                      rotate_left
                      · intro w hSw; (try dsimp only at hSw); first | (go_simp; done) | (go_simp; with_reducible rfl)
                      try simp only [Act.put, List.setIfInBounds_toArray, List.set_cons_zero, List.set_cons_succ]
                      refine wpAnyH_take (i := 34) (oi := ⟨_, _, _, _, _, _⟩) (v := ?_) rfl (by kernel_rfl) (by kernel_rfl) (by kernel_rfl) (fun _ _ _ h => h) (Or.inl ⟨by rfl, ?_⟩) (by assumption) ?_
                      rotate_left
                      · intro w hSw; (try dsimp only at hSw); first | (go_simp; done) | (go_simp; with_reducible rfl)
                      try simp only [Act.put, List.setIfInBounds_toArray, List.set_cons_zero, List.set_cons_succ]
                      refine wpAnyH_take (i := 35) (oi := ⟨_, _, _, _, _, _⟩) (v := ?_) rfl (by kernel_rfl) (by kernel_rfl) (by kernel_rfl) (fun _ _ _ h => h) (Or.inl ⟨by rfl, ?_⟩) (by assumption) ?_
                      rotate_left
                      · intro w hSw; (try dsimp only at hSw); first | (go_simp; done) | (go_simp; with_reducible rfl)
                      try simp only [Act.put, List.setIfInBounds_toArray, List.set_cons_zero, List.set_cons_succ]
                      refine wpAnyH_done (by kernel_rfl) ?_ _
                      clear hHeld w1 w2 w3 w4' w5' w6 v1 v2 v3 hneq hgd
                      go_wp2_with fail
                      go_roundw
                      case rel => exact ⟨q + 1, by omega, by go_num, Lib.hid (hV.out.trans (Bwn11.out.mono hV.out.size))⟩
                      case measure => simp [intOf]; omega
                  · clear hq
                    go_wp2_with fail
                    go_roundw
                    case rel => exact ⟨k + 1, by omega, by go_num, by rw [HPE.out], Lib.hid (hW.out.trans (hV.out.mono hW.out.size))⟩
                    case measure => simp [intOf]; omega
          · go_wp2_with fail
            go_ret
            exact ⟨rfl, FN.out _ (TO.out _ hW.out)⟩
  · go_wp2_with fail
    go_ret
    exact ⟨rfl, HW.out _ (BY2.out.trans (B5.out.mono BY2.out.size))⟩
end Go.Proofs.YteijekhmgedhoaaDoor
