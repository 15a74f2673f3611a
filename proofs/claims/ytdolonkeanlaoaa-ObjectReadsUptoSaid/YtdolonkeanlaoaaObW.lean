/- The walk of PutBlob. -/
import Derived.Test.YtdolonkeanlaoaaObV
namespace Go.Proofs.Ytdolonkeanlaoaa
open Go.RowKit
attribute [local simp high] id_size id_zero

theorem encA_below {w : World} {r : Except Int (List UInt8)} {e : Ending} {w' : World} (h : EncAnswers w r e w') : Below w.heap.size w w' := by
  cases r with
  | error c => exact h.2
  | ok o => obtain ⟨v, _, _, h⟩ := h; exact h
set_option maxRecDepth 100000 in
set_option maxHeartbeats 8000000 in
theorem pblob_any (S : Nat → Prop) (ia : Option Addr) (n ic : Nat) (ids : List (List UInt8)) (sz : Int) (w : World) (hS : ∀ k, S k → k < w.heap.size) (hn : ids.length = n) (hv : IDsC S w (.slice ia n ic) ids) (hl : n ≤ 1048576) (hlo : -9223372036854775808 ≤ sz) (hhi : sz ≤ 9223372036854775807) :
    Calls Try.prog 8 #[.agg #[.slice ia n ic, .int .i64 sz]] w (EncAnswers w (putBlobR ids sz)) := by
  obtain ⟨w0, hw0⟩ : ∃ w0, w0 = w.alloc (.cells #[.slice ia n ic, .int .i64 sz] 24) := ⟨_, rfl⟩
  have hb0 : Below w.heap.size w w0 := by rw [hw0]; exact (Below.refl _ w).alloc (Nat.le_refl _) _
  have hz0 : w0.heap.size = w.heap.size + 1 := by rw [hw0]; simp
  have HWN : Hid (∀ W, Below w0.heap.size w0 W → Calls Try.prog 35 #[.slice ia n ic] W (ValP 15 (rowV (ids.map textV)) W)) := Lib.hid (fun W hW => wnames_any S _ ids W (fun k hk => by have := hS k hk; have := hW.size; omega) (hv.kept (fun k hk => ⟨hk, (hW.block k (by have := hS k hk; omega)).trans (hb0.block k (hS k hk))⟩)) (by omega))
  have HK : Hid (∀ W, Below w0.heap.size w0 W → W.cell? ⟨w.heap.size, 0, none⟩ = some (.slice ia n ic) ∧ W.cell? ⟨w.heap.size, 1, none⟩ = some (.int .i64 sz)) := Lib.hid (fun W hW => by
    have h : W.heap[w.heap.size]? = some (.cells #[.slice ia n ic, .int .i64 sz] 24 (0, 0)) := (hW.block _ (by omega)).trans (by rw [hw0]; exact new_five w _ _)
    exact (two_new _ _ _ h).1)
  have HB0 := Lib.hid hb0
  have HN := Lib.hid hn
  have HW0 := Lib.hid hw0
  unfold putBlobR
  rw [hn]
  clear hv hS hn hb0 hz0
  by_cases h1 : 4096 < n
  · rw [if_pos (Or.inl h1)]
    clear hw0
    go_enter Try.func8, Try.ntmps8
    go_wp2_with fail
    go_ret2
    exact ⟨rfl, by rw [← HW0.out]; exact HB0.out⟩
  by_cases h2 : 262144 < sz
  · rw [if_pos (Or.inr h2)]
    clear hw0
    go_enter Try.func8, Try.ntmps8
    go_wp2_with fail
    go_ret2
    exact ⟨rfl, by rw [← HW0.out]; exact HB0.out⟩
  rw [if_neg (by omega)]
  by_cases h3 : sz < 0
  · rw [if_pos h3]
    clear hw0
    go_enter Try.func8, Try.ntmps8
    go_wp2_with fail
    go_ret2
    exact ⟨rfl, by rw [← HW0.out]; exact HB0.out⟩
  rw [if_neg h3]
  obtain ⟨k, rfl⟩ : ∃ k : Nat, sz = (k : Int) := ⟨sz.toNat, by omega⟩
  rw [Int.toNat_natCast]
  obtain ⟨r, hr⟩ : ∃ r, encR (blobV ids k) = r := ⟨_, rfl⟩
  rw [hr]
  have HR : Hid (encR (recV 2 [rowV (ids.map textV), numV k]) = r) := Lib.hid hr
  have HSZ : Hid (k < 18446744073709551616) := Lib.hid (by omega)
  have HDP : Hid (∀ x ∈ [rowV (ids.map textV), numV k], Deep 15 x) := Lib.hid (fun x hx => by
    simp only [List.mem_cons, List.not_mem_nil, or_false] at hx
    rcases hx with rfl | rfl
    · exact deep_row (n := 14) (fun y hy => by obtain ⟨z, _, rfl⟩ := List.mem_map.1 hy; exact deep_text _ _)
    · exact deep_num _ _)
  have hwk : IntKind.u64.wrap (k : Int) = (k : Int) := IntWalk.u64_in _ (by omega)
  clear hr
  go_enter Try.func8, Try.ntmps8
  go_wp2_with fail
  rw [← hw0]
  clear hw0
  refine wp_region_held_drew (S := (fun W => W.cell? ⟨w.heap.size, 0, none⟩ = some (.slice ia n ic) ∧ W.cell? ⟨w.heap.size, 1, none⟩ = some (.int .i64 (k : Int)))) (by kernel_rfl) (by exact HK.out _ (drewn _ w0 1)) (fun hHeld => ?_)
  refine wpAnyH_take (i := 0) (oi := ⟨_, _, _, _, _, _⟩) (v := ?_) rfl (by kernel_rfl) (by kernel_rfl) (by kernel_rfl) (fun _ _ _ h => h) (Or.inl ⟨by rfl, ?_⟩) (by assumption) ?_
  rotate_left
  · intro w hSw; (try dsimp only at hSw); first | (go_simp; done) | (go_simp; with_reducible rfl)
  try simp only [Act.put, List.setIfInBounds_toArray, List.set_cons_zero, List.set_cons_succ]
  refine wpAnyH_take (i := 1) (oi := ⟨_, _, _, _, _, _⟩) (v := ?_) rfl (by kernel_rfl) (by kernel_rfl) (by kernel_rfl) (fun _ _ _ h => h) (Or.inl ⟨by rfl, ?_⟩) (by assumption) ?_
  rotate_left
  · intro w hSw; (try dsimp only at hSw); first | (go_simp; done) | (go_simp; with_reducible rfl)
  try simp only [Act.put, List.setIfInBounds_toArray, List.set_cons_zero, List.set_cons_succ]
  refine wpAnyH_take (i := 3) (oi := ⟨_, _, _, _, _, _⟩) (v := ?_) rfl (by kernel_rfl) (by kernel_rfl) (by kernel_rfl) (fun _ _ _ h => h) (Or.inl ⟨by rfl, ?_⟩) (by assumption) ?_
  rotate_left
  · intro w hSw; (try dsimp only at hSw); first | (go_simp; done) | (go_simp; with_reducible rfl)
  try simp only [Act.put, List.setIfInBounds_toArray, List.set_cons_zero, List.set_cons_succ]
  refine wpAnyH_take (i := 4) (oi := ⟨_, _, _, _, _, _⟩) (v := ?_) rfl (by kernel_rfl) (by kernel_rfl) (by kernel_rfl) (fun _ _ _ h => h) (Or.inl ⟨by rfl, ?_⟩) (by assumption) ?_
  rotate_left
  · intro w hSw; (try dsimp only at hSw); first | (go_simp; done) | (go_simp; with_reducible rfl)
  try simp only [Act.put, List.setIfInBounds_toArray, List.set_cons_zero, List.set_cons_succ]
  refine wpAnyH_take (i := 5) (oi := ⟨_, _, _, _, _, _⟩) (v := ?_) rfl (by kernel_rfl) (by kernel_rfl) (by kernel_rfl) (fun _ _ _ h => h) (Or.inl ⟨by rfl, ?_⟩) (by assumption) ?_
  rotate_left
  · intro w hSw; (try dsimp only at hSw); first | (go_simp; done) | (go_simp; with_reducible rfl)
  try simp only [Act.put, List.setIfInBounds_toArray, List.set_cons_zero, List.set_cons_succ]
  refine wpAnyH_ready (rs := [2]) (by kernel_rfl) (by simp) ?_
  refine AllReadyH.cons (o := ⟨_, _, _, _, _, _⟩) rfl (fun K hK => ?_) AllReadyH.nil
  go_simp
  refine (HWN.out w0.drew (drewn _ w0 1)).mono ?_
  rintro e w1 ⟨v1, rfl, hx1, hb1⟩
  obtain ⟨a1, c1, a2, c2, rfl, _⟩ := hx1.parts
  have HX1 := Lib.hid hx1
  have HBc : Hid (Below w0.heap.size w0 w1) := Lib.hid ((drewn _ w0 1).trans hb1)
  simp only [rowV, Val.kind, Val.num, Val.bytes, Val.real, Val.list, List.length_nil, List.length_map] at HX1 ⊢
  clear hx1 hb1
  try go_wp2_with fail
  refine hK.out _ _ (by exact HK.out _ HBc.out) (fun hHeld => ?_)
  clear hK K
  try simp only [Act.put, List.setIfInBounds_toArray, List.set_cons_zero, List.set_cons_succ]
  refine wpAnyH_ready (rs := [6]) (by kernel_rfl) (by simp) ?_
  refine AllReadyH.cons (o := ⟨_, _, _, _, _, _⟩) rfl (fun K hK => ?_) AllReadyH.nil
  go_simp
  refine (num_any k w1).mono ?_
  rintro e w2 ⟨rfl, hb2⟩
  have HX1 := Lib.hid (ReadsS.kept (fun k hk => new_mono hb2 k hk) 15 _ _ HX1.out)
  have HBc : Hid (Below w0.heap.size w0 w2) := Lib.hid (HBc.out.trans (hb2.mono HBc.out.size))
  clear hb2
  try go_wp2_with fail
  refine hK.out _ _ (by exact HK.out _ HBc.out) (fun hHeld => ?_)
  clear hK K
  try simp only [Act.put, List.setIfInBounds_toArray, List.set_cons_zero, List.set_cons_succ]
  refine wpAnyH_ready (rs := [7]) (by kernel_rfl) (by simp) ?_
  refine AllReadyH.cons (o := ⟨_, _, _, _, _, _⟩) rfl (fun K hK => ?_) AllReadyH.nil
  go_simp
  refine any_stepC (fun w3 hN => ?_)
  have hlit := lit_list (S := fun k => k < w2.heap.size) (w := w2) (w' := w3) (n := 15) [⟨.int .i64 3, .int .u64 (0 : Nat), .slice a1 0 c1, .float .f64 (0 : Nat), .slice a2 ids.length c2⟩, ⟨.int .i64 0, .int .u64 k, .slice none 0 0, .float .f64 (0 : Nat), .slice none 0 0⟩] [rowV (ids.map textV), numV k] (by simp) rfl (by rw [hN]; first | exact Or.inl rfl | exact Or.inr rfl) (fun k hk => hk) (fun j q y hq hy => by
              match j, hq, hy with
              | 0, hq, hy => injection hq with hq; injection hy with hy; subst hq hy; exact ReadsS.kept (fun k hk => ⟨hk.2, rfl⟩) 15 _ _ HX1.out
              | 1, hq, hy => injection hq with hq; injection hy with hy; subst hq hy; exact num_reads 14 _ HSZ.out)
  have HLIT := Lib.hid hlit
  have HBc : Hid (Below w0.heap.size w0 w3) := Lib.hid (by rw [hN]; first | exact HBc.out.alloc HBc.out.size _ | exact (HBc.out.alloc HBc.out.size _).drew)
  clear hN hlit
  try go_wp2_with fail
  refine hK.out _ _ (by exact HK.out _ HBc.out) (fun hHeld => ?_)
  clear hK K
  try simp only [Act.put, List.setIfInBounds_toArray, List.set_cons_zero, List.set_cons_succ]
  refine wpAnyH_ready (rs := [8]) (by kernel_rfl) (by simp) ?_
  refine AllReadyH.cons (o := ⟨_, _, _, _, _, _⟩) rfl (fun K hK => ?_) AllReadyH.nil
  go_simp
  refine (record_any (fun k => k < w3.heap.size) 2 _ [rowV (ids.map textV), numV k] w3 (fun k hk => hk) (by omega) (by simp) HDP.out HLIT.out).mono ?_
  intro e w4 h4
  have HA := Lib.hid (encA_mono (HB0.out.trans (HBc.out.mono HB0.out.size)) (show EncAnswers w3 r e w4 by rw [← HR.out]; exact h4))
  have HBf : Hid (Below w0.heap.size w0 w4) := Lib.hid (HBc.out.trans ((encA_below h4).mono HBc.out.size))
  clear h4
  cases r with
  | error c =>
    obtain ⟨rfl, hb4⟩ := HA.out
    have HB4 := Lib.hid hb4
    clear hb4
    refine hK.out _ _ (by exact HK.out _ HBf.out) (fun hHeld => ?_)
    clear hK K HA
    try simp only [Act.put, List.setIfInBounds_toArray, List.set_cons_zero, List.set_cons_succ]
    refine wpAnyH_take (i := 9) (oi := ⟨_, _, _, _, _, _⟩) (v := ?_) rfl (by kernel_rfl) (by kernel_rfl) (by kernel_rfl) (fun _ _ _ h => h) (Or.inl ⟨by rfl, ?_⟩) (by assumption) ?_
    rotate_left
    · intro w hSw; (try dsimp only at hSw); first | (go_simp; done) | (go_simp; with_reducible rfl)
    try simp only [Act.put, List.setIfInBounds_toArray, List.set_cons_zero, List.set_cons_succ]
    refine wpAnyH_take (i := 10) (oi := ⟨_, _, _, _, _, _⟩) (v := ?_) rfl (by kernel_rfl) (by kernel_rfl) (by kernel_rfl) (fun _ _ _ h => h) (Or.inl ⟨by rfl, ?_⟩) (by assumption) ?_
    rotate_left
    · intro w hSw; (try dsimp only at hSw); first | (go_simp; done) | (go_simp; with_reducible rfl)
    try simp only [Act.put, List.setIfInBounds_toArray, List.set_cons_zero, List.set_cons_succ]
    refine wpAnyH_take (i := 11) (oi := ⟨_, _, _, _, _, _⟩) (v := ?_) rfl (by kernel_rfl) (by kernel_rfl) (by kernel_rfl) (fun _ _ _ h => h) (Or.inl ⟨by rfl, ?_⟩) (by assumption) ?_
    rotate_left
    · intro w hSw; (try dsimp only at hSw); first | (go_simp; done) | (go_simp; with_reducible rfl)
    try simp only [Act.put, List.setIfInBounds_toArray, List.set_cons_zero, List.set_cons_succ]
    refine wpAnyH_take (i := 12) (oi := ⟨_, _, _, _, _, _⟩) (v := ?_) rfl (by kernel_rfl) (by kernel_rfl) (by kernel_rfl) (fun _ _ _ h => h) (Or.inl ⟨by rfl, ?_⟩) (by assumption) ?_
    rotate_left
    · intro w hSw; (try dsimp only at hSw); first | (go_simp; done) | (go_simp; with_reducible rfl)
    try simp only [Act.put, List.setIfInBounds_toArray, List.set_cons_zero, List.set_cons_succ]
    refine wpAnyH_done (by kernel_rfl) ?_ _
    clear hHeld
    go_wp2_with fail
    go_ret2
    exact ⟨rfl, HB4.out⟩
  | ok o =>
    obtain ⟨vo, rfl, ho, hb4⟩ := HA.out
    have HO := Lib.hid ho
    have HB4 := Lib.hid hb4
    clear ho hb4
    refine hK.out _ _ (by exact HK.out _ HBf.out) (fun hHeld => ?_)
    clear hK K HA
    try simp only [Act.put, List.setIfInBounds_toArray, List.set_cons_zero, List.set_cons_succ]
    refine wpAnyH_take (i := 9) (oi := ⟨_, _, _, _, _, _⟩) (v := ?_) rfl (by kernel_rfl) (by kernel_rfl) (by kernel_rfl) (fun _ _ _ h => h) (Or.inl ⟨by rfl, ?_⟩) (by assumption) ?_
    rotate_left
    · intro w hSw; (try dsimp only at hSw); first | (go_simp; done) | (go_simp; with_reducible rfl)
    try simp only [Act.put, List.setIfInBounds_toArray, List.set_cons_zero, List.set_cons_succ]
    refine wpAnyH_take (i := 10) (oi := ⟨_, _, _, _, _, _⟩) (v := ?_) rfl (by kernel_rfl) (by kernel_rfl) (by kernel_rfl) (fun _ _ _ h => h) (Or.inl ⟨by rfl, ?_⟩) (by assumption) ?_
    rotate_left
    · intro w hSw; (try dsimp only at hSw); first | (go_simp; done) | (go_simp; with_reducible rfl)
    try simp only [Act.put, List.setIfInBounds_toArray, List.set_cons_zero, List.set_cons_succ]
    refine wpAnyH_take (i := 11) (oi := ⟨_, _, _, _, _, _⟩) (v := ?_) rfl (by kernel_rfl) (by kernel_rfl) (by kernel_rfl) (fun _ _ _ h => h) (Or.inl ⟨by rfl, ?_⟩) (by assumption) ?_
    rotate_left
    · intro w hSw; (try dsimp only at hSw); first | (go_simp; done) | (go_simp; with_reducible rfl)
    try simp only [Act.put, List.setIfInBounds_toArray, List.set_cons_zero, List.set_cons_succ]
    refine wpAnyH_take (i := 12) (oi := ⟨_, _, _, _, _, _⟩) (v := ?_) rfl (by kernel_rfl) (by kernel_rfl) (by kernel_rfl) (fun _ _ _ h => h) (Or.inl ⟨by rfl, ?_⟩) (by assumption) ?_
    rotate_left
    · intro w hSw; (try dsimp only at hSw); first | (go_simp; done) | (go_simp; with_reducible rfl)
    try simp only [Act.put, List.setIfInBounds_toArray, List.set_cons_zero, List.set_cons_succ]
    refine wpAnyH_done (by kernel_rfl) ?_ _
    clear hHeld
    go_wp2_with fail
    go_ret2
    exact ⟨_, rfl, HO.out, HB4.out⟩
end Go.Proofs.Ytdolonkeanlaoaa
