/- The walk of PutCommit. -/
import Derived.Test.YtdolonkeanlaoaaDoorObW
namespace Go.Proofs.YtdolonkeanlaoaaDoor
open Go.RowKit
attribute [local simp high] id_size id_zero com_size com_zero n32_ne n36_ne

theorem com_text {S : Nat → Prop} {w : World} {a : Option Addr} {c : Nat} {X : List UInt8} (hX : X.length = 32) (h : BytesC S w (.slice a 32 c) X) : ReadsS S w 15 (Five.agg ⟨.int .i64 1, .int .u64 (0 : Nat), .slice a 32 c, .float .f64 (0 : Nat), .slice none 0 0⟩) (textV X) := text_reads 14 h (by omega)
set_option maxRecDepth 100000 in
set_option maxHeartbeats 8000000 in
theorem pcom_any (S : Nat → Prop) (ia : Option Addr) (n ic : Nat) (x : ComN) (w : World) (hS : ∀ k, S k → k < w.heap.size) (hn : x.parents.length = n) (hv : IDsC S w (.slice ia n ic) x.parents) (hl : n ≤ 1048576) (ht : x.tree.length = 32) (hs : x.stamp < 18446744073709551616) (hau : x.author.length ≤ 9223372036854775807) (hno : x.note.length ≤ 9223372036854775807) :
    Calls Tryd.prog 11 #[.agg (rowL n36 (comF x.tree ia n ic x.stamp x.author x.note)).toArray] w (EncAnswers w (putComR x)) := by
  obtain ⟨w0, hw0⟩ : ∃ w0, w0 = w.alloc (.cells (rowL n36 (comF x.tree ia n ic x.stamp x.author x.note)).toArray 40) := ⟨_, rfl⟩
  have hb0 : Below w.heap.size w w0 := by rw [hw0]; exact (Below.refl _ w).alloc (Nat.le_refl _) _
  have hz0 : w0.heap.size = w.heap.size + 1 := by rw [hw0]; simp
  have hR0 : RF w0 w.heap.size 40 n36 (comF x.tree ia n ic x.stamp x.author x.note) := by rw [hw0]; exact RF.new _ _ _ _
  have hvk : ∀ W, Below w0.heap.size w0 W → IDsC S W (.slice ia n ic) x.parents := fun W hW => hv.kept (fun k hk => ⟨hk, (hW.block k (by have := hS k hk; omega)).trans (hb0.block k (hS k hk))⟩)
  have HWN : Hid (∀ W, Below w0.heap.size w0 W → Calls Tryd.prog 32 #[.slice ia n ic] W (ValP 15 (rowV (x.parents.map textV)) W)) := Lib.hid (fun W hW => wnames_any S _ x.parents W (fun k hk => by have := hS k hk; have := hW.size; omega) (hvk W hW) (by omega))
  have HRI := Lib.hid (rise_any S _ x.parents w0 (hvk w0 (Below.refl _ _)) (by omega))
  have HK : Hid (∀ W, Below w0.heap.size w0 W → (loadCellsFrom ⟨w.heap.size, 0, none⟩ 0 n32 #[]).run Tryd.prog W = .ok (bv x.tree).toArray W ∧ W.cell? ⟨w.heap.size, 32, none⟩ = some (.slice ia n ic) ∧ W.cell? ⟨w.heap.size, 33, none⟩ = some (.float .f64 x.stamp) ∧ W.cell? ⟨w.heap.size, 34, none⟩ = some (.string ⟨x.author.toArray⟩) ∧ W.cell? ⟨w.heap.size, 35, none⟩ = some (.string ⟨x.note.toArray⟩)) := Lib.hid (fun W hW => by
    have h := hR0.kept (hW.block _ (by omega))
    refine ⟨?_, h.cell (k := 32) (by unfold n36; omega), h.cell (k := 33) (by unfold n36; omega), h.cell (k := 34) (by unfold n36; omega), h.cell (k := 35) (by unfold n36; omega)⟩
    have := h.load (o := 0) (m := n32) (by unfold n32 n36; omega)
    rw [← com_tree ht ia n ic x.stamp x.author x.note]
    simpa using this)
  have HB0 := Lib.hid hb0
  have HN := Lib.hid hn
  have HTL := Lib.hid ht
  have HCS : Hid (canonB x.stamp < 18446744073709551616) := Lib.hid (canonB_lt hs)
  obtain ⟨_, q32, q33, q34, q35⟩ := HK.out w0 (Below.refl _ _)
  rw [hw0] at q32 q33 q34 q35
  have hol := rowL_len n36 (comF x.tree ia n ic x.stamp x.author x.note)
  have HW0 := Lib.hid hw0
  unfold putComR
  rw [hn]
  clear hv hS hn hb0 hz0 hR0 hvk ht hs
  by_cases h1 : 8 < n
  · rw [if_pos (Or.inl h1)]
    clear hw0
    go_enter Tryd.func11, Tryd.ntmps11
    go_wp2_with fail
    go_ret2
    exact ⟨rfl, by rw [← HW0.out]; exact HB0.out⟩
  by_cases h2 : 64 < x.author.length
  · rw [if_pos (Or.inr (Or.inl h2))]
    clear hw0
    go_enter Tryd.func11, Tryd.ntmps11
    go_wp2_with fail
    go_ret2
    exact ⟨rfl, by rw [← HW0.out]; exact HB0.out⟩
  by_cases h3 : 1024 < x.note.length
  · rw [if_pos (Or.inr (Or.inr h3))]
    clear hw0
    go_enter Tryd.func11, Tryd.ntmps11
    go_wp2_with fail
    go_ret2
    exact ⟨rfl, by rw [← HW0.out]; exact HB0.out⟩
  rw [if_neg (by omega)]
  have HAL : Hid (x.author.length ≤ 1048576) := Lib.hid (by omega)
  have HNL : Hid (x.note.length ≤ 1048576) := Lib.hid (by omega)
  obtain ⟨rb, hrb⟩ : ∃ b, riseB x.parents = b := ⟨_, rfl⟩
  rw [hrb] at HRI ⊢
  clear hrb
  have HBz : Hid (Below w0.heap.size w0 w0) := Lib.hid (Below.refl _ _)
  rw [hw0] at HRI
  cases rb with
  | false =>
    rw [if_pos rfl]
    clear hw0
    go_enter Tryd.func11, Tryd.ntmps11
    go_wp2_with fail
    refine HRI.out.mono ?_
    rintro e wz ⟨rfl, nz, rfl⟩
    rw [← HW0.out]
    have HBd : Hid (Below w.heap.size w (w0.drewN nz)) := Lib.hid (HB0.out.trans ((drewn _ w0 nz).mono HB0.out.size))
    generalize w0.drewN nz = wz at *
    go_wp2_with fail
    go_ret2
    exact ⟨rfl, HBd.out⟩
  | true =>
    rw [if_neg (by simp)]
    obtain ⟨r, hr⟩ : ∃ r, encR (comV x) = r := ⟨_, rfl⟩
    rw [hr]
    have HR : Hid (encR (recV 4 [textV x.tree, rowV (x.parents.map textV), realV (canonB x.stamp), textV x.author, textV x.note]) = r) := Lib.hid (by rw [← hr, ← (com_canon x).enc]; rfl)
    have HDP : Hid (∀ y ∈ [textV x.tree, rowV (x.parents.map textV), realV (canonB x.stamp), textV x.author, textV x.note], Deep 15 y) := Lib.hid (fun y hy => by
      simp only [List.mem_cons, List.not_mem_nil, or_false] at hy
      rcases hy with rfl | rfl | rfl | rfl | rfl
      · exact deep_text _ _
      · exact deep_row (n := 14) (fun y hy => by obtain ⟨z, _, rfl⟩ := List.mem_map.1 hy; exact deep_text _ _)
      · exact deep_real _ _
      · exact deep_text _ _
      · exact deep_text _ _)
    clear hr hw0
    go_enter Tryd.func11, Tryd.ntmps11
    go_wp2_with fail
    refine HRI.out.mono ?_
    rintro e wz ⟨rfl, nz, rfl⟩
    rw [← HW0.out]
    have HBc : Hid (Below w0.heap.size w0 (w0.drewN nz)) := Lib.hid (drewn _ w0 nz)
    generalize w0.drewN nz = wz at *
    clear q32 q33 q34 q35 hol
    go_wp2_with fail
    refine wp_region_held_drew (S := (fun W => (loadCellsFrom ⟨w.heap.size, 0, none⟩ 0 n32 #[]).run Tryd.prog W = .ok (bv x.tree).toArray W ∧ W.cell? ⟨w.heap.size, 32, none⟩ = some (.slice ia n ic) ∧ W.cell? ⟨w.heap.size, 33, none⟩ = some (.float .f64 x.stamp) ∧ W.cell? ⟨w.heap.size, 34, none⟩ = some (.string ⟨x.author.toArray⟩) ∧ W.cell? ⟨w.heap.size, 35, none⟩ = some (.string ⟨x.note.toArray⟩))) (by kernel_rfl) (by exact HK.out _ (HBc.out.trans ((drewn _ wz 1).mono HBc.out.size))) (fun hHeld => ?_)
    refine wpAnyH_take (i := 0) (oi := ⟨_, _, _, _, _, _⟩) (v := ?_) rfl (by kernel_rfl) (by kernel_rfl) (by kernel_rfl) (fun _ _ _ h => h) (Or.inl ⟨by rfl, ?_⟩) (by assumption) ?_
    rotate_left
    · intro w hSw; (try dsimp only at hSw); first | (go_simp; done) | (go_simp; with_reducible rfl)
    try simp only [Act.put, List.setIfInBounds_toArray, List.set_cons_zero, List.set_cons_succ]
    refine wpAnyH_take (i := 1) (oi := ⟨_, _, _, _, _, _⟩) (v := ?_) rfl (by kernel_rfl) (by kernel_rfl) (by kernel_rfl) (fun _ _ _ h => h) (Or.inl ⟨by rfl, ?_⟩) (by assumption) ?_
    rotate_left
    · intro w hSw; (try dsimp only at hSw); first | (go_simp; done) | (go_simp; with_reducible rfl)
    try simp only [Act.put, List.setIfInBounds_toArray, List.set_cons_zero, List.set_cons_succ]
    refine wpAnyH_take (i := 3) (oi := ⟨_, _, _, _, _, _⟩) (v := ?_) rfl (by kernel_rfl) (by kernel_rfl) (by kernel_rfl) (fun _ _ _ h => h) (Or.inl ⟨by rfl, ?_⟩) (by assumption) ?_
    rotate_left
    · intro w hSw; (try dsimp only at hSw); first | (go_simp; done) | (go_simp; with_reducible rfl)
    try simp only [Act.put, List.setIfInBounds_toArray, List.set_cons_zero, List.set_cons_succ]
    refine wpAnyH_take (i := 4) (oi := ⟨_, _, _, _, _, _⟩) (v := ?_) rfl (by kernel_rfl) (by kernel_rfl) (by kernel_rfl) (fun _ _ _ h => h) (Or.inl ⟨by rfl, ?_⟩) (by assumption) ?_
    rotate_left
    · intro w hSw; (try dsimp only at hSw); first | (go_simp; done) | (go_simp; with_reducible rfl)
    try simp only [Act.put, List.setIfInBounds_toArray, List.set_cons_zero, List.set_cons_succ]
    refine wpAnyH_take (i := 6) (oi := ⟨_, _, _, _, _, _⟩) (v := ?_) rfl (by kernel_rfl) (by kernel_rfl) (by kernel_rfl) (fun _ _ _ h => h) (Or.inl ⟨by rfl, ?_⟩) (by assumption) ?_
    rotate_left
    · intro w hSw; (try dsimp only at hSw); first | (go_simp; done) | (go_simp; with_reducible rfl)
    try simp only [Act.put, List.setIfInBounds_toArray, List.set_cons_zero, List.set_cons_succ]
    refine wpAnyH_take (i := 7) (oi := ⟨_, _, _, _, _, _⟩) (v := ?_) rfl (by kernel_rfl) (by kernel_rfl) (by kernel_rfl) (fun _ _ _ h => h) (Or.inl ⟨by rfl, ?_⟩) (by assumption) ?_
    rotate_left
    · intro w hSw; (try dsimp only at hSw); first | (go_simp; done) | (go_simp; with_reducible rfl)
    try simp only [Act.put, List.setIfInBounds_toArray, List.set_cons_zero, List.set_cons_succ]
    refine wpAnyH_take (i := 9) (oi := ⟨_, _, _, _, _, _⟩) (v := ?_) rfl (by kernel_rfl) (by kernel_rfl) (by kernel_rfl) (fun _ _ _ h => h) (Or.inl ⟨by rfl, ?_⟩) (by assumption) ?_
    rotate_left
    · intro w hSw; (try dsimp only at hSw); first | (go_simp; done) | (go_simp; with_reducible rfl)
    try simp only [Act.put, List.setIfInBounds_toArray, List.set_cons_zero, List.set_cons_succ]
    refine wpAnyH_take (i := 10) (oi := ⟨_, _, _, _, _, _⟩) (v := ?_) rfl (by kernel_rfl) (by kernel_rfl) (by kernel_rfl) (fun _ _ _ h => h) (Or.inl ⟨by rfl, ?_⟩) (by assumption) ?_
    rotate_left
    · intro w hSw; (try dsimp only at hSw); first | (go_simp; done) | (go_simp; with_reducible rfl)
    try simp only [Act.put, List.setIfInBounds_toArray, List.set_cons_zero, List.set_cons_succ]
    refine wpAnyH_take (i := 12) (oi := ⟨_, _, _, _, _, _⟩) (v := ?_) rfl (by kernel_rfl) (by kernel_rfl) (by kernel_rfl) (fun _ _ _ h => h) (Or.inl ⟨by rfl, ?_⟩) (by assumption) ?_
    rotate_left
    · intro w hSw; (try dsimp only at hSw); first | (go_simp; done) | (go_simp; with_reducible rfl)
    try simp only [Act.put, List.setIfInBounds_toArray, List.set_cons_zero, List.set_cons_succ]
    refine wpAnyH_take (i := 13) (oi := ⟨_, _, _, _, _, _⟩) (v := ?_) rfl (by kernel_rfl) (by kernel_rfl) (by kernel_rfl) (fun _ _ _ h => h) (Or.inl ⟨by rfl, ?_⟩) (by assumption) ?_
    rotate_left
    · intro w hSw; (try dsimp only at hSw); first | (go_simp; done) | (go_simp; with_reducible rfl)
    try simp only [Act.put, List.setIfInBounds_toArray, List.set_cons_zero, List.set_cons_succ]
    refine wpAnyH_ready (rs := [2]) (by kernel_rfl) (by simp) ?_
    refine AllReadyH.cons (o := ⟨_, _, _, _, _, _⟩) rfl (fun K hK => ?_) AllReadyH.nil
    go_simp
    have hcz := HBc.out
    refine (oname_any x.tree wz.drew HTL.out).mono ?_
    rintro e w1 ⟨v1, rfl, hx1, hb1⟩
    obtain ⟨a1, c1, rfl⟩ := hx1.shape
    have hb1' := (drewn wz.heap.size wz 1).trans hb1
    have HX1 := Lib.hid (hx1.kept (S' := NewS w0 w1) (w' := w1) (fun q hq => ⟨⟨Nat.le_trans hcz.size hq.1, hq.2⟩, rfl⟩))
    have HBc : Hid (Below w0.heap.size w0 w1) := Lib.hid (hcz.trans (hb1'.mono hcz.size))
    rw [HTL.out] at HX1 ⊢
    clear hx1 hb1 hb1' hcz
    try go_wp2_with fail
    refine hK.out _ _ (by exact HK.out _ HBc.out) (fun hHeld => ?_)
    clear hK K
    try simp only [Act.put, List.setIfInBounds_toArray, List.set_cons_zero, List.set_cons_succ]
    refine wpAnyH_ready (rs := [5]) (by kernel_rfl) (by simp) ?_
    refine AllReadyH.cons (o := ⟨_, _, _, _, _, _⟩) rfl (fun K hK => ?_) AllReadyH.nil
    go_simp
    have hcz := HBc.out
    refine (HWN.out w1 HBc.out).mono ?_
    rintro e w2 ⟨v2, rfl, hx2, hb2⟩
    obtain ⟨a2, c2, a2', c2', rfl, _⟩ := hx2.parts
    have HX2 := Lib.hid (ReadsS.kept (S' := NewS w0 w2) (w' := w2) (fun q hq => ⟨⟨Nat.le_trans hcz.size hq.1, hq.2⟩, rfl⟩) 15 _ _ hx2)
    have HX1 := Lib.hid (HX1.out.kept (S' := NewS w0 w2) (w' := w2) (fun q hq => new_mono hb2 q hq))
    have HBc : Hid (Below w0.heap.size w0 w2) := Lib.hid (hcz.trans (hb2.mono hcz.size))
    simp only [rowV, Val.kind, Val.num, Val.bytes, Val.real, Val.list, List.length_nil, List.length_map] at HX2 ⊢
    rw [HN.out] at HX2 ⊢
    clear hx2 hb2 hcz
    try go_wp2_with fail
    refine hK.out _ _ (by exact HK.out _ HBc.out) (fun hHeld => ?_)
    clear hK K
    try simp only [Act.put, List.setIfInBounds_toArray, List.set_cons_zero, List.set_cons_succ]
    refine wpAnyH_ready (rs := [8]) (by kernel_rfl) (by simp) ?_
    refine AllReadyH.cons (o := ⟨_, _, _, _, _, _⟩) rfl (fun K hK => ?_) AllReadyH.nil
    go_simp
    refine (real_any x.stamp w2).mono ?_
    rintro e w3 ⟨rfl, hb3⟩
    have HX1 := Lib.hid (HX1.out.kept (S' := NewS w0 w3) (w' := w3) (fun q hq => new_mono hb3 q hq))
    have HX2 := Lib.hid (ReadsS.kept (fun q hq => new_mono hb3 q hq) 15 _ _ HX2.out)
    have HBc : Hid (Below w0.heap.size w0 w3) := Lib.hid (HBc.out.trans (hb3.mono HBc.out.size))
    clear hb3
    try go_wp2_with fail
    refine hK.out _ _ (by exact HK.out _ HBc.out) (fun hHeld => ?_)
    clear hK K
    try simp only [Act.put, List.setIfInBounds_toArray, List.set_cons_zero, List.set_cons_succ]
    refine wpAnyH_ready (rs := [11]) (by kernel_rfl) (by simp) ?_
    refine AllReadyH.cons (o := ⟨_, _, _, _, _, _⟩) rfl (fun K hK => ?_) AllReadyH.nil
    go_simp
    have hcz := HBc.out
    refine (text_any x.author w3 HAL.out).mono ?_
    rintro e w4 ⟨v4, rfl, hx4, hb4⟩
    obtain ⟨a4, c4, rfl⟩ := hx4.shape
    have HX4 := Lib.hid (hx4.kept (S' := NewS w0 w4) (w' := w4) (fun q hq => ⟨⟨Nat.le_trans hcz.size hq.1, hq.2⟩, rfl⟩))
    have HX1 := Lib.hid (HX1.out.kept (S' := NewS w0 w4) (w' := w4) (fun q hq => new_mono hb4 q hq))
    have HX2 := Lib.hid (ReadsS.kept (fun q hq => new_mono hb4 q hq) 15 _ _ HX2.out)
    have HBc : Hid (Below w0.heap.size w0 w4) := Lib.hid (hcz.trans (hb4.mono hcz.size))
    clear hx4 hb4 hcz
    try go_wp2_with fail
    refine hK.out _ _ (by exact HK.out _ HBc.out) (fun hHeld => ?_)
    clear hK K
    try simp only [Act.put, List.setIfInBounds_toArray, List.set_cons_zero, List.set_cons_succ]
    refine wpAnyH_ready (rs := [14]) (by kernel_rfl) (by simp) ?_
    refine AllReadyH.cons (o := ⟨_, _, _, _, _, _⟩) rfl (fun K hK => ?_) AllReadyH.nil
    go_simp
    have hcz := HBc.out
    refine (text_any x.note w4 HNL.out).mono ?_
    rintro e w5 ⟨v5, rfl, hx5, hb5⟩
    obtain ⟨a5, c5, rfl⟩ := hx5.shape
    have HX5 := Lib.hid (hx5.kept (S' := NewS w0 w5) (w' := w5) (fun q hq => ⟨⟨Nat.le_trans hcz.size hq.1, hq.2⟩, rfl⟩))
    have HX1 := Lib.hid (HX1.out.kept (S' := NewS w0 w5) (w' := w5) (fun q hq => new_mono hb5 q hq))
    have HX2 := Lib.hid (ReadsS.kept (fun q hq => new_mono hb5 q hq) 15 _ _ HX2.out)
    have HX4 := Lib.hid (HX4.out.kept (S' := NewS w0 w5) (w' := w5) (fun q hq => new_mono hb5 q hq))
    have HBc : Hid (Below w0.heap.size w0 w5) := Lib.hid (hcz.trans (hb5.mono hcz.size))
    clear hx5 hb5 hcz
    try go_wp2_with fail
    refine hK.out _ _ (by exact HK.out _ HBc.out) (fun hHeld => ?_)
    clear hK K
    try simp only [Act.put, List.setIfInBounds_toArray, List.set_cons_zero, List.set_cons_succ]
    refine wpAnyH_ready (rs := [15]) (by kernel_rfl) (by simp) ?_
    refine AllReadyH.cons (o := ⟨_, _, _, _, _, _⟩) rfl (fun K hK => ?_) AllReadyH.nil
    go_simp
    refine any_stepC (fun w6 hN => ?_)
    have hlit := lit_list (S := NewS w0 w5) (w := w5) (w' := w6) (n := 15) [⟨.int .i64 1, .int .u64 (0 : Nat), .slice a1 32 c1, .float .f64 (0 : Nat), .slice none 0 0⟩, ⟨.int .i64 3, .int .u64 (0 : Nat), .slice a2 0 c2, .float .f64 (0 : Nat), .slice a2' n c2'⟩, ⟨.int .i64 2, .int .u64 (0 : Nat), .slice none 0 0, .float .f64 (canonB x.stamp), .slice none 0 0⟩, ⟨.int .i64 1, .int .u64 (0 : Nat), .slice a4 x.author.length c4, .float .f64 (0 : Nat), .slice none 0 0⟩, ⟨.int .i64 1, .int .u64 (0 : Nat), .slice a5 x.note.length c5, .float .f64 (0 : Nat), .slice none 0 0⟩] [textV x.tree, rowV (x.parents.map textV), realV (canonB x.stamp), textV x.author, textV x.note] (by simp) rfl (by rw [hN]; first | exact Or.inl rfl | exact Or.inr rfl) (fun k hk => hk.2) (fun j q y hq hy => by
      match j, hq, hy with
      | 0, hq, hy => injection hq with hq; injection hy with hy; subst hq hy; exact com_text HTL.out HX1.out
      | 1, hq, hy => injection hq with hq; injection hy with hy; subst hq hy; exact HX2.out
      | 2, hq, hy => injection hq with hq; injection hy with hy; subst hq hy; exact real_reads 14 _ HCS.out
      | 3, hq, hy => injection hq with hq; injection hy with hy; subst hq hy; exact text_reads 14 HX4.out HAL.out
      | 4, hq, hy => injection hq with hq; injection hy with hy; subst hq hy; exact text_reads 14 HX5.out HNL.out)
    have HLIT := Lib.hid hlit
    have HBc : Hid (Below w0.heap.size w0 w6) := Lib.hid (by rw [hN]; first | exact HBc.out.alloc HBc.out.size _ | exact (HBc.out.alloc HBc.out.size _).drew)
    clear hN hlit
    try go_wp2_with fail
    refine hK.out _ _ (by exact HK.out _ HBc.out) (fun hHeld => ?_)
    clear hK K
    try simp only [Act.put, List.setIfInBounds_toArray, List.set_cons_zero, List.set_cons_succ]
    refine wpAnyH_ready (rs := [16]) (by kernel_rfl) (by simp) ?_
    refine AllReadyH.cons (o := ⟨_, _, _, _, _, _⟩) rfl (fun K hK => ?_) AllReadyH.nil
    go_simp
    refine (record_any (fun k => k < w6.heap.size) 4 _ [textV x.tree, rowV (x.parents.map textV), realV (canonB x.stamp), textV x.author, textV x.note] w6 (fun k hk => hk) (by omega) (by simp) HDP.out HLIT.out).mono ?_
    intro e w7 h4
    have HA := Lib.hid (encA_mono (HB0.out.trans (HBc.out.mono HB0.out.size)) (show EncAnswers w6 r e w7 by rw [← HR.out]; exact h4))
    have HBf : Hid (Below w0.heap.size w0 w7) := Lib.hid (HBc.out.trans ((encA_below h4).mono HBc.out.size))
    clear h4
    cases r with
    | error c =>
      obtain ⟨rfl, hb4⟩ := HA.out
      have HB4 := Lib.hid hb4
      clear hb4
      refine hK.out _ _ (by exact HK.out _ HBf.out) (fun hHeld => ?_)
      clear hK K HA
      try simp only [Act.put, List.setIfInBounds_toArray, List.set_cons_zero, List.set_cons_succ]
      refine wpAnyH_take (i := 17) (oi := ⟨_, _, _, _, _, _⟩) (v := ?_) rfl (by kernel_rfl) (by kernel_rfl) (by kernel_rfl) (fun _ _ _ h => h) (Or.inl ⟨by rfl, ?_⟩) (by assumption) ?_
      rotate_left
      · intro w hSw; (try dsimp only at hSw); first | (go_simp; done) | (go_simp; with_reducible rfl)
      try simp only [Act.put, List.setIfInBounds_toArray, List.set_cons_zero, List.set_cons_succ]
      refine wpAnyH_take (i := 18) (oi := ⟨_, _, _, _, _, _⟩) (v := ?_) rfl (by kernel_rfl) (by kernel_rfl) (by kernel_rfl) (fun _ _ _ h => h) (Or.inl ⟨by rfl, ?_⟩) (by assumption) ?_
      rotate_left
      · intro w hSw; (try dsimp only at hSw); first | (go_simp; done) | (go_simp; with_reducible rfl)
      try simp only [Act.put, List.setIfInBounds_toArray, List.set_cons_zero, List.set_cons_succ]
      refine wpAnyH_take (i := 19) (oi := ⟨_, _, _, _, _, _⟩) (v := ?_) rfl (by kernel_rfl) (by kernel_rfl) (by kernel_rfl) (fun _ _ _ h => h) (Or.inl ⟨by rfl, ?_⟩) (by assumption) ?_
      rotate_left
      · intro w hSw; (try dsimp only at hSw); first | (go_simp; done) | (go_simp; with_reducible rfl)
      try simp only [Act.put, List.setIfInBounds_toArray, List.set_cons_zero, List.set_cons_succ]
      refine wpAnyH_take (i := 20) (oi := ⟨_, _, _, _, _, _⟩) (v := ?_) rfl (by kernel_rfl) (by kernel_rfl) (by kernel_rfl) (fun _ _ _ h => h) (Or.inl ⟨by rfl, ?_⟩) (by assumption) ?_
      rotate_left
      · intro w hSw; (try dsimp only at hSw); first | (go_simp; done) | (go_simp; with_reducible rfl)
      try simp only [Act.put, List.setIfInBounds_toArray, List.set_cons_zero, List.set_cons_succ]
      refine wpAnyH_done (by kernel_rfl) ?_ _
      clear hHeld
      go_wp2_with fail
      go_ret2
      exact ⟨rfl, HB4.out⟩
    | ok o =>
      obtain ⟨vo, rfl, ho, hb4⟩ := HA.out
      have HO := Lib.hid ho
      have HB4 := Lib.hid hb4
      clear ho hb4
      refine hK.out _ _ (by exact HK.out _ HBf.out) (fun hHeld => ?_)
      clear hK K HA
      try simp only [Act.put, List.setIfInBounds_toArray, List.set_cons_zero, List.set_cons_succ]
      refine wpAnyH_take (i := 17) (oi := ⟨_, _, _, _, _, _⟩) (v := ?_) rfl (by kernel_rfl) (by kernel_rfl) (by kernel_rfl) (fun _ _ _ h => h) (Or.inl ⟨by rfl, ?_⟩) (by assumption) ?_
      rotate_left
      · intro w hSw; (try dsimp only at hSw); first | (go_simp; done) | (go_simp; with_reducible rfl)
      try simp only [Act.put, List.setIfInBounds_toArray, List.set_cons_zero, List.set_cons_succ]
      refine wpAnyH_take (i := 18) (oi := ⟨_, _, _, _, _, _⟩) (v := ?_) rfl (by kernel_rfl) (by kernel_rfl) (by kernel_rfl) (fun _ _ _ h => h) (Or.inl ⟨by rfl, ?_⟩) (by assumption) ?_
      rotate_left
      · intro w hSw; (try dsimp only at hSw); first | (go_simp; done) | (go_simp; with_reducible rfl)
      try simp only [Act.put, List.setIfInBounds_toArray, List.set_cons_zero, List.set_cons_succ]
      refine wpAnyH_take (i := 19) (oi := ⟨_, _, _, _, _, _⟩) (v := ?_) rfl (by kernel_rfl) (by kernel_rfl) (by kernel_rfl) (fun _ _ _ h => h) (Or.inl ⟨by rfl, ?_⟩) (by assumption) ?_
      rotate_left
      · intro w hSw; (try dsimp only at hSw); first | (go_simp; done) | (go_simp; with_reducible rfl)
      try simp only [Act.put, List.setIfInBounds_toArray, List.set_cons_zero, List.set_cons_succ]
      refine wpAnyH_take (i := 20) (oi := ⟨_, _, _, _, _, _⟩) (v := ?_) rfl (by kernel_rfl) (by kernel_rfl) (by kernel_rfl) (fun _ _ _ h => h) (Or.inl ⟨by rfl, ?_⟩) (by assumption) ?_
      rotate_left
      · intro w hSw; (try dsimp only at hSw); first | (go_simp; done) | (go_simp; with_reducible rfl)
      try simp only [Act.put, List.setIfInBounds_toArray, List.set_cons_zero, List.set_cons_succ]
      refine wpAnyH_done (by kernel_rfl) ?_ _
      clear hHeld
      go_wp2_with fail
      go_ret2
      exact ⟨_, rfl, HO.out, HB4.out⟩
end Go.Proofs.YtdolonkeanlaoaaDoor
