/- The law ObjectChunks. -/
import Derived.Test.YtdolonkeanlaoaaDoorObRa
import Derived.Test.YtdolonkeanlaoaaDoorObY
import Derived.Test.YtdolonkeanlaoaaDoorObBa
import Derived.Test.YtdolonkeanlaoaaDoorShaG
namespace Go.Proofs.YtdolonkeanlaoaaDoor
open Go.RowKit
attribute [local simp high] id_size id_zero

set_option maxRecDepth 100000 in
set_option maxHeartbeats 4000000 in
theorem dpchunk_any (b : List UInt8) (w : World) (hbl : b.length ≤ 281474976710656) :
    Calls Tryd.prog 6 #[.string ⟨b.toArray⟩] w (REncAnswers w (putChunkR b)) := by
  unfold putChunkR
  by_cases hl : 262144 < b.length
  · rw [if_pos hl]
    go_enter Tryd.func6, Tryd.ntmps6
    go_wp2_with fail
    go_ret2
    exact ⟨rfl, Below.refl _ _⟩
  · rw [if_neg hl]
    have HT := Lib.hid (dbytes_any b w (by omega))
    have HBL : Hid (b.length ≤ 1048576) := Lib.hid (by omega)
    obtain ⟨r, hr⟩ : ∃ r, encR (chunkV b) = r := ⟨_, rfl⟩
    rw [hr]
    have HR : Hid (encR (recV 1 [textV b]) = r) := Lib.hid hr
    clear hr
    go_enter Tryd.func6, Tryd.ntmps6
    go_wp2_with fail
    refine HT.out.mono ?_
    rintro e w1 ⟨vb, rfl, hbv, hb1⟩
    obtain ⟨ba, bc, rfl⟩ := hbv.shape
    obtain ⟨w2, hw2⟩ : ∃ w2, w2 = w1.alloc (.cells #[.int .i64 1, .int .u64 0, .slice ba b.length bc, .float .f64 0, .slice none 0 0] 53) := ⟨_, rfl⟩
    have hlit := lit_list (S := NewS w w1) (w := w1) (w' := w2) (n := 15) [⟨.int .i64 1, .int .u64 (0 : Nat), .slice ba b.length bc, .float .f64 (0 : Nat), .slice none 0 0⟩] [textV b] (by simp) rfl (by rw [hw2]; exact Or.inl rfl) (fun k hk => hk.2) (fun j q y hq hy => by
      cases j with
      | zero => simp at hq hy; subst hq hy; exact text_reads 14 hbv HBL.out
      | succ j => simp at hq)
    have HRC := Lib.hid (dseal_any _ 1 _ [textV b] w2 (fun k hk => hk) (by omega) (by simp) hlit)
    have HB2 : Hid (Below w.heap.size w w2) := Lib.hid (by rw [hw2]; exact hb1.alloc hb1.size _)
    rw [HR.out] at HRC
    clear hbv hb1 hlit
    go_wp2_with fail
    rw [← hw2]
    refine HRC.out.mono ?_
    intro e w3 h3
    have HA := Lib.hid (rencA_mono HB2.out h3)
    clear h3
    cases r with
    | error c =>
      obtain ⟨rfl, hb4⟩ := HA.out
      have HB4 := Lib.hid hb4
      clear hb4 HA
      go_wp2_with fail
      go_ret2
      exact ⟨rfl, HB4.out⟩
    | ok o =>
      obtain ⟨rfl, hb4⟩ := HA.out
      have HB4 := Lib.hid hb4
      clear hb4 HA
      go_wp2_with fail
      go_ret2
      exact ⟨rfl, HB4.out⟩
set_option maxRecDepth 100000 in
set_option maxHeartbeats 4000000 in
theorem oName_any (S : Nat → Prop) (v : Value) (l : List UInt8) (w : World) (hS : ∀ k, S k → k < w.heap.size) (hb : BytesC S w v l) (hl : l.length ≤ 1048576) (hE : Env w) :
    Calls Tryd.prog 9 #[v] w fun e w' => e = .returned (.agg (bv (sumN l)).toArray) ∧ Below w.heap.size w w' := by
  have hst := run_storeF
  obtain ⟨va, vc, rfl⟩ := hb.shape
  obtain ⟨n, hn⟩ : ∃ n, l.length = n := ⟨_, rfl⟩
  obtain ⟨w2, hw2⟩ : ∃ w2, w2 = (w.alloc (.cells (bv zeros).toArray 33)).alloc (.cells #[.slice va l.length vc] 22) := ⟨_, rfl⟩
  have hB2 : Below w.heap.size w w2 := by rw [hw2]; exact ((Below.refl _ w).alloc (Nat.le_refl _) _).alloc (by simp) _
  have hz2 : w2.heap.size = w.heap.size + 2 := by rw [hw2]; simp
  have hk2 : w2.heap[w.heap.size + 1]? = some (.cells #[.slice va l.length vc] 22 (0, 0)) := by
    rw [hw2]
    have h := new_five (w.alloc (.cells (bv zeros).toArray 33)) #[.slice va l.length vc] 22
    rw [World.size_alloc] at h
    exact h
  have hi2 : IDAt w2 w.heap.size zeros := ⟨rfl, by rw [hw2]; exact (Below.heap_alloc _ _ _ (by simp)).trans (new_five w _ _)⟩
  have hch : ChunksC (fun k => k < w2.heap.size) w2 (.slice (some ⟨w.heap.size + 1, 0, none⟩) 1 1) [l] := by
    refine Or.inr ⟨_, 1, rfl, Nat.le_refl _, by unfold maxLen; omega, Or.inr (by rw [hz2]; simp), fun j x hj => ?_⟩
    match j, hj with
    | 0, hj =>
      injection hj with hj
      subst hj
      refine ⟨_, ?_, hb.kept (fun k hk => ⟨by have := hS k hk; omega, hB2.block k (hS k hk)⟩)⟩
      rw [Addr.add_mid, cell_of_row _ _ _ _ _ _ hk2]
      rfl
  have HSU := Lib.hid (sum_any _ _ [l] w2 (fun k hk => hk) hch (by simp; omega) (by simp) (hE.on hB2))
  have HFL : Hid ([l].flatten = l) := Lib.hid (by simp)
  rw [HFL.out] at HSU
  have HB2 := Lib.hid hB2
  have HI2 := Lib.hid hi2
  have HZ2 := Lib.hid hz2
  have HXL := Lib.hid (sumN_len l)
  have HW2 := Lib.hid hw2
  obtain ⟨X, hX⟩ : ∃ X, sumN l = X := ⟨_, rfl⟩
  rw [hX] at HSU HXL ⊢
  clear hb hS hE hB2 hz2 hk2 hi2 hch hX hw2 hn
  go_enter Tryd.func9, Tryd.ntmps9
  go_wp2_with fail
  rw [← HW2.out]
  refine HSU.out.mono ?_
  rintro e w3 ⟨rfl, hb3⟩
  have i3 := HI2.out.kept (hb3.block w.heap.size (by rw [HZ2.out]; omega))
  have st := i3.write HXL.out
  have HP := Lib.hid (i3.put HXL.out)
  have zx : (bv X).length = n32 := by rw [bv_len, HXL.out]; rfl
  have HBF : Hid (Below w.heap.size w (w3.setRow w.heap.size (bv X).toArray)) := Lib.hid (below_setRow (HB2.out.trans (hb3.mono HB2.out.size)) (Nat.le_refl _) _)
  clear hb3 i3
  go_wp2_with fail
  exact bodyPost_ret (results_one Tryd.results9 _ _ rfl (id_load HP.out)) rfl ⟨rfl, HBF.out⟩
theorem chunk_small {l : List UInt8} (h : l.length ≤ 262144) : ∃ q, putChunkR l = .ok q ∧ q.length ≤ 1048576 := by
  obtain ⟨q, hq, hl⟩ := enc_small 16 (chunkV l) [] (by
    unfold chunkV recV
    refine okay_row (n := 15) (by simp) (fun x hx => ?_)
    simp only [List.mem_cons, List.not_mem_nil, or_false] at hx
    rcases hx with rfl | rfl
    · exact okay_num 14 (by omega)
    · exact okay_text 14 (by omega)) (by
    unfold chunkV recV rowV numV textV
    simp only [sizeV, List.map_cons, List.map_nil, List.sum_cons, List.sum_nil, List.length_nil]
    omega)
  have hs : sizeV 16 (chunkV l) ≤ 1048576 := by
    unfold chunkV recV rowV numV textV
    simp only [sizeV, List.map_cons, List.map_nil, List.sum_cons, List.sum_nil, List.length_nil]
    omega
  refine ⟨q, ?_, by omega⟩
  unfold putChunkR
  rw [if_neg (by omega)]
  have : encR (chunkV l) = .ok ([] ++ q) := hq
  simpa using this
set_option maxRecDepth 100000 in
set_option maxHeartbeats 8000000 in
theorem chunks_law (v : Value) (l : List UInt8) (w : World) (hb : BytesC (fun k => k < w.heap.size) w v l) (hl : l.length ≤ 1048576) (hE : Env w) :
    Calls Tryd.prog 3 #[v] w fun e w' => e = .returned (.bool true) ∧ Below w.heap.size w w' := by
  have hst := run_storeF
  obtain ⟨sa, sc, rfl⟩ := hb.shape
  obtain ⟨ln, hln⟩ : ∃ n, l.length = n := ⟨_, rfl⟩
  rw [hln] at hb ⊢
  have HLN := Lib.hid hln
  have HBC : Hid (∀ W, Below w.heap.size w W → BytesC (fun k => k < w.heap.size) W (.slice sa ln sc) l) := Lib.hid (fun W hW => hb.kept (fun k hk => ⟨hk, hW.block k hk⟩))
  have HP : Hid (∀ W, Below w.heap.size w W → Calls Tryd.prog 5 #[.slice sa ln sc] W (EncAnswers W (putChunkR l))) := Lib.hid (fun W hW => pchunk_any (fun k => k < w.heap.size) _ l W (fun k hk => Nat.lt_of_lt_of_le hk hW.size) (hb.kept (fun k hk => ⟨hk, hW.block k hk⟩)) (by omega))
  have HD : Hid (∀ W, Calls Tryd.prog 6 #[.string ⟨l.toArray⟩] W (REncAnswers W (putChunkR l))) := Lib.hid (fun W => dpchunk_any l W (by omega))
  have HE0 := Lib.hid hE
  clear hb hln hE
  go_enter Tryd.func3, Tryd.ntmps3
  go_wp2_with fail
  refine (aw_try w).mono ?_
  rintro e w1 ⟨rfl, hb1⟩
  have HB1 := Lib.hid hb1
  clear hb1
  by_cases hbig : 262144 < ln
  · have HR : Hid (putChunkR l = .error 2) := Lib.hid (by unfold putChunkR; rw [HLN.out, if_pos hbig])
    rw [HR.out] at HP HD
    go_wp2_with fail
    refine (HP.out w1 HB1.out).mono ?_
    rintro e w2 ⟨rfl, hb2⟩
    have HB2 : Hid (Below w.heap.size w w2) := Lib.hid (HB1.out.trans (hb2.mono HB1.out.size))
    have hcv := bytes_str (HBC.out w2 HB2.out)
    clear hb2
    go_wp2_with fail
    refine (HD.out w2).mono ?_
    rintro e w3 ⟨rfl, hb3⟩
    have HB3 : Hid (Below w.heap.size w w3) := Lib.hid (HB2.out.trans (hb3.mono HB2.out.size))
    have hcn := bytes_str (S := fun _ => True) (w := w3) (v := .slice none 0 0) (l := []) (Or.inl ⟨rfl, rfl⟩)
    have gl : decide ((ln : Int) > 262144) = true := decide_eq_true (by omega)
    have gl2 : decide ((262144 : Int) < (ln : Int)) = true := decide_eq_true (by omega)
    clear hb3 hcv
    go_wp2_with fail
    go_ret
    exact ⟨rfl, HB3.out⟩
  · obtain ⟨q, hq, hqq⟩ := chunk_small (l := l) (by rw [HLN.out]; omega)
    obtain ⟨hc1, hc2⟩ := chunk_back hq
    rw [hq] at HP HD
    have HC1 := Lib.hid hc1
    have HC2 := Lib.hid hc2
    obtain ⟨qn, hqn⟩ : ∃ n, q.length = n := ⟨_, rfl⟩
    rw [hqn] at hqq
    have HQN := Lib.hid hqn
    clear hq hc1 hc2 hqn
    go_wp2_with fail
    refine (HP.out w1 HB1.out).mono ?_
    rintro e w2 ⟨vx, rfl, hx, hb2⟩
    have HB2 : Hid (Below w.heap.size w w2) := Lib.hid (HB1.out.trans (hb2.mono HB1.out.size))
    have hcv := bytes_str (HBC.out w2 HB2.out)
    have hxc : BytesC (fun k => k < w2.heap.size) w2 vx q := (own_c hx).kept (fun k hk => ⟨hk.2, rfl⟩)
    obtain ⟨xa, xc, rfl⟩ := hxc.shape
    rw [HQN.out] at hxc ⊢
    have KX := Lib.hid hxc
    clear hb2 hx hxc
    go_wp2_with fail
    refine (HD.out w2).mono ?_
    rintro e w3 ⟨rfl, hb3⟩
    have HB3 : Hid (Below w.heap.size w w3) := Lib.hid (HB2.out.trans (hb3.mono HB2.out.size))
    have KX := Lib.hid (KX.out.kept (S' := fun k => k < w3.heap.size) (w' := w3) (fun k hk => ⟨Nat.lt_of_lt_of_le hk hb3.size, hb3.block k hk⟩))
    have hcx := bytes_str KX.out
    have HG := Lib.hid (gchunk_any (fun k => k < w3.heap.size) _ q w3 (fun k hk => hk) KX.out)
    rw [HC1.out] at HG
    clear hb3 hcv
    go_wp2_with fail
    refine HG.out.mono ?_
    rintro e w4 ⟨vy, rfl, hy, hb4⟩
    have HB4 : Hid (Below w.heap.size w w4) := Lib.hid (HB3.out.trans (hb4.mono HB3.out.size))
    have KX := Lib.hid (KX.out.kept (S' := fun k => k < w4.heap.size) (w' := w4) (fun k hk => ⟨Nat.lt_of_lt_of_le hk hb4.size, hb4.block k hk⟩))
    have hyc : BytesC (fun k => k < w4.heap.size) w4 vy l := BytesC.kept hy (fun k hk => ⟨hk.2, rfl⟩)
    obtain ⟨ya, yc, rfl⟩ := hyc.shape
    rw [HLN.out] at hyc ⊢
    have KY := Lib.hid hyc
    have HL := Lib.hid (links_any (fun k => k < w4.heap.size) _ q w4 (fun k hk => hk) KX.out)
    rw [HC2.out] at HL
    clear hb4 hy hyc hcx
    go_wp2_with fail
    refine HL.out.mono ?_
    rintro e w5 ⟨vl, rfl, hli, hb5⟩
    have HB : Hid (Below w.heap.size w w5) := Lib.hid (HB4.out.trans (hb5.mono HB4.out.size))
    have KX := Lib.hid (KX.out.kept (S' := fun k => k < w5.heap.size) (w' := w5) (fun k hk => ⟨Nat.lt_of_lt_of_le hk hb5.size, hb5.block k hk⟩))
    have KY := Lib.hid (KY.out.kept (S' := fun k => k < w5.heap.size) (w' := w5) (fun k hk => ⟨Nat.lt_of_lt_of_le hk hb5.size, hb5.block k hk⟩))
    have HE := Lib.hid (HE0.out.on HB.out)
    obtain ⟨la, lc, rfl⟩ := row_shape_any hli.1
    clear hb5 hli
    by_cases hq2 : 2000 < qn
    · have gq : decide ((qn : Int) > 2000) = true := decide_eq_true (by omega)
      have gq2 : decide ((2000 : Int) < (qn : Int)) = true := decide_eq_true (by omega)
      have gq3 : decide (2000 < qn) = true := decide_eq_true hq2
      have hv1 := fun nq => bytes_str (KY.out.drewN nq)
      have hv2 := fun nq => bytes_str ((HBC.out w5 HB.out).drewN nq)
      go_upto_region 11 with fail
      go_quiet (fail)
      go_wp2_with fail
      go_ret
      exact ⟨rfl, HB.out.trans ((drewn _ _ _).mono HB.out.size)⟩
    · have hqle : qn ≤ 2000 := by omega
      clear hq2
      obtain ⟨S0, hS0⟩ : ∃ S0 : World → Prop, S0 = (fun W => Below w.heap.size w W ∧ Env W ∧ BytesC (fun k => k < W.heap.size) W (.slice xa qn xc) q ∧ BytesC (fun k => k < W.heap.size) W (.slice ya ln yc) l ∧ BytesC (fun k => k < w.heap.size) W (.slice sa ln sc) l) := ⟨_, rfl⟩
      have HS0 : Hid (∀ W, S0 W ↔ Below w.heap.size w W ∧ Env W ∧ BytesC (fun k => k < W.heap.size) W (.slice xa qn xc) q ∧ BytesC (fun k => k < W.heap.size) W (.slice ya ln yc) l ∧ BytesC (fun k => k < w.heap.size) W (.slice sa ln sc) l) := Lib.hid (fun W => by rw [hS0])
      clear hS0
      have HST : Hid (∀ W W', S0 W → Below W.heap.size W W' → S0 W') := Lib.hid (fun W W' h hb => by
        obtain ⟨q0, q1, q2, q3, q4⟩ := (HS0.out W).1 h
        exact (HS0.out W').2 ⟨q0.trans (hb.mono q0.size), q1.on hb, q2.kept (fun k hk => ⟨Nat.lt_of_lt_of_le hk hb.size, hb.block k hk⟩), q3.kept (fun k hk => ⟨Nat.lt_of_lt_of_le hk hb.size, hb.block k hk⟩), q4.kept (fun k hk => ⟨hk, hb.block k (Nat.lt_of_lt_of_le hk q0.size)⟩)⟩)
      have HSc : Hid (S0 w5) := Lib.hid ((HS0.out w5).2 ⟨HB.out, HE.out, KX.out, KY.out, HBC.out w5 HB.out⟩)
      have HN : Hid (∀ W, S0 W → Calls Tryd.prog 9 #[.slice xa qn xc] W fun e w' => e = .returned (.agg (bv (sumN q)).toArray) ∧ Below W.heap.size W w') := Lib.hid (fun W h => by
        obtain ⟨-, q1, q2, -, -⟩ := (HS0.out W).1 h
        exact oName_any (fun k => k < W.heap.size) _ q W (fun k hk => hk) q2 (by rw [HQN.out]; omega) q1)
      have HR3 : Hid (∀ W, Calls Tryd.prog 10 #[.string ⟨q.toArray⟩] W fun e w' => e = .returned (.agg (bv (sumN q)).toArray) ∧ Below W.heap.size W w') := Lib.hid (fun W => rsum_any q W (by rw [HQN.out]; omega))
      have heq : ∀ W, (binOp .eql 33 (.agg (bv (sumN q)).toArray) (.agg (bv (sumN q)).toArray)).run Tryd.prog W = .ok (.bool true) W := fun W => by have h := id_eql W (sumN_len q) (sumN_len q); simpa using h
      obtain ⟨X, hX⟩ : ∃ X, bv (sumN q) = X := ⟨_, rfl⟩
      rw [hX] at heq HN HR3
      clear hX
      have gq : decide ((qn : Int) > 2000) = false := decide_eq_false (by omega)
      have gq2 : decide ((2000 : Int) < (qn : Int)) = false := decide_eq_false (by omega)
      have gq3 : decide (2000 < qn) = false := decide_eq_false (by omega)
      have HFIN : Hid (∀ W, S0 W → Below w.heap.size w W) := Lib.hid (fun W h => ((HS0.out W).1 h).1)
      go_upto_region 11 with fail
      refine wp_region_D 31 S0 (by kernel_rfl) (by kernel_rfl) (by kernel_rfl) ?_
      have HSc : Hid (S0 w5.drew) := Lib.hid (HST.out _ _ HSc.out (below_drewN _ w5 1))
      have hSd := HSc.out
      refine wpAnyD_take (i := 0) (oi := ⟨_, _, _, _, _, _⟩) (v := ?_) rfl (by kernel_rfl) (by kernel_rfl) (by kernel_rfl) (by kernel_rfl) (fun _ _ _ h => h) (fun W n h => HST.out W _ h (below_drewN _ W n)) (Or.inl (Or.inl ⟨by rfl, ?_⟩)) hSd ?_
      rotate_left
      · intro W hSw; (try dsimp only at hSw); obtain ⟨-, -, q2, q3, q4⟩ := (HS0.out W).1 hSw; have hcv1 := bytes_str q2; have hcv2 := bytes_str q3; have hcv3 := bytes_str q4; clear q2 q3 q4; first | (go_simp; done) | (go_simp; with_reducible rfl)
      try simp only [Act.put, List.setIfInBounds_toArray, List.set_cons_zero, List.set_cons_succ]
      refine wpAnyD_take (i := 1) (oi := ⟨_, _, _, _, _, _⟩) (v := ?_) rfl (by kernel_rfl) (by kernel_rfl) (by kernel_rfl) (by kernel_rfl) (fun _ _ _ h => h) (fun W n h => HST.out W _ h (below_drewN _ W n)) (Or.inl (Or.inl ⟨by rfl, ?_⟩)) hSd ?_
      rotate_left
      · intro W hSw; (try dsimp only at hSw); obtain ⟨-, -, q2, q3, q4⟩ := (HS0.out W).1 hSw; have hcv1 := bytes_str q2; have hcv2 := bytes_str q3; have hcv3 := bytes_str q4; clear q2 q3 q4; first | (go_simp; done) | (go_simp; with_reducible rfl)
      try simp only [Act.put, List.setIfInBounds_toArray, List.set_cons_zero, List.set_cons_succ]
      refine wpAnyD_take (i := 2) (oi := ⟨_, _, _, _, _, _⟩) (v := ?_) rfl (by kernel_rfl) (by kernel_rfl) (by kernel_rfl) (by kernel_rfl) (fun _ _ _ h => h) (fun W n h => HST.out W _ h (below_drewN _ W n)) (Or.inl (Or.inl ⟨by rfl, ?_⟩)) hSd ?_
      rotate_left
      · intro W hSw; (try dsimp only at hSw); obtain ⟨-, -, q2, q3, q4⟩ := (HS0.out W).1 hSw; have hcv1 := bytes_str q2; have hcv2 := bytes_str q3; have hcv3 := bytes_str q4; clear q2 q3 q4; first | (go_simp; done) | (go_simp; with_reducible rfl)
      try simp only [Act.put, List.setIfInBounds_toArray, List.set_cons_zero, List.set_cons_succ]
      refine wpAnyD_take (i := 3) (oi := ⟨_, _, _, _, _, _⟩) (v := ?_) rfl (by kernel_rfl) (by kernel_rfl) (by kernel_rfl) (by kernel_rfl) (fun _ _ _ h => h) (fun W n h => HST.out W _ h (below_drewN _ W n)) (Or.inl (Or.inl ⟨by rfl, ?_⟩)) hSd ?_
      rotate_left
      · intro W hSw; (try dsimp only at hSw); obtain ⟨-, -, q2, q3, q4⟩ := (HS0.out W).1 hSw; have hcv1 := bytes_str q2; have hcv2 := bytes_str q3; have hcv3 := bytes_str q4; clear q2 q3 q4; first | (go_simp; done) | (go_simp; with_reducible rfl)
      try simp only [Act.put, List.setIfInBounds_toArray, List.set_cons_zero, List.set_cons_succ]
      refine wpAnyD_take (i := 4) (oi := ⟨_, _, _, _, _, _⟩) (v := ?_) rfl (by kernel_rfl) (by kernel_rfl) (by kernel_rfl) (by kernel_rfl) (fun _ _ _ h => h) (fun W n h => HST.out W _ h (below_drewN _ W n)) (Or.inl (Or.inl ⟨by rfl, ?_⟩)) hSd ?_
      rotate_left
      · intro W hSw; (try dsimp only at hSw); obtain ⟨-, -, q2, q3, q4⟩ := (HS0.out W).1 hSw; have hcv1 := bytes_str q2; have hcv2 := bytes_str q3; have hcv3 := bytes_str q4; clear q2 q3 q4; first | (go_simp; done) | (go_simp; with_reducible rfl)
      try simp only [Act.put, List.setIfInBounds_toArray, List.set_cons_zero, List.set_cons_succ]
      refine wpAnyD_take (i := 5) (oi := ⟨_, _, _, _, _, _⟩) (v := ?_) rfl (by kernel_rfl) (by kernel_rfl) (by kernel_rfl) (by kernel_rfl) (fun _ _ _ h => h) (fun W n h => HST.out W _ h (below_drewN _ W n)) (Or.inl (Or.inl ⟨by rfl, ?_⟩)) hSd ?_
      rotate_left
      · intro W hSw; (try dsimp only at hSw); obtain ⟨-, -, q2, q3, q4⟩ := (HS0.out W).1 hSw; have hcv1 := bytes_str q2; have hcv2 := bytes_str q3; have hcv3 := bytes_str q4; clear q2 q3 q4; first | (go_simp; done) | (go_simp; with_reducible rfl)
      try simp only [Act.put, List.setIfInBounds_toArray, List.set_cons_zero, List.set_cons_succ]
      refine wpAnyD_take (i := 6) (oi := ⟨_, _, _, _, _, _⟩) (v := ?_) rfl (by kernel_rfl) (by kernel_rfl) (by kernel_rfl) (by kernel_rfl) (fun _ _ _ h => h) (fun W n h => HST.out W _ h (below_drewN _ W n)) (Or.inl (Or.inl ⟨by rfl, ?_⟩)) hSd ?_
      rotate_left
      · intro W hSw; (try dsimp only at hSw); obtain ⟨-, -, q2, q3, q4⟩ := (HS0.out W).1 hSw; have hcv1 := bytes_str q2; have hcv2 := bytes_str q3; have hcv3 := bytes_str q4; clear q2 q3 q4; first | (go_simp; done) | (go_simp; with_reducible rfl)
      try simp only [Act.put, List.setIfInBounds_toArray, List.set_cons_zero, List.set_cons_succ]
      refine wpAnyD_take (i := 7) (oi := ⟨_, _, _, _, _, _⟩) (v := ?_) rfl (by kernel_rfl) (by kernel_rfl) (by kernel_rfl) (by kernel_rfl) (fun _ _ _ h => h) (fun W n h => HST.out W _ h (below_drewN _ W n)) (Or.inl (Or.inl ⟨by rfl, ?_⟩)) hSd ?_
      rotate_left
      · intro W hSw; (try dsimp only at hSw); obtain ⟨-, -, q2, q3, q4⟩ := (HS0.out W).1 hSw; have hcv1 := bytes_str q2; have hcv2 := bytes_str q3; have hcv3 := bytes_str q4; clear q2 q3 q4; first | (go_simp; done) | (go_simp; with_reducible rfl)
      try simp only [Act.put, List.setIfInBounds_toArray, List.set_cons_zero, List.set_cons_succ]
      refine wpAnyD_take (i := 8) (oi := ⟨_, _, _, _, _, _⟩) (v := ?_) rfl (by kernel_rfl) (by kernel_rfl) (by kernel_rfl) (by kernel_rfl) (fun _ _ _ h => h) (fun W n h => HST.out W _ h (below_drewN _ W n)) (Or.inl (Or.inl ⟨by rfl, ?_⟩)) hSd ?_
      rotate_left
      · intro W hSw; (try dsimp only at hSw); obtain ⟨-, -, q2, q3, q4⟩ := (HS0.out W).1 hSw; have hcv1 := bytes_str q2; have hcv2 := bytes_str q3; have hcv3 := bytes_str q4; clear q2 q3 q4; first | (go_simp; done) | (go_simp; with_reducible rfl)
      try simp only [Act.put, List.setIfInBounds_toArray, List.set_cons_zero, List.set_cons_succ]
      refine wpAnyD_take (i := 9) (oi := ⟨_, _, _, _, _, _⟩) (v := ?_) rfl (by kernel_rfl) (by kernel_rfl) (by kernel_rfl) (by kernel_rfl) (fun _ _ _ h => h) (fun W n h => HST.out W _ h (below_drewN _ W n)) (Or.inl (Or.inl ⟨by rfl, ?_⟩)) hSd ?_
      rotate_left
      · intro W hSw; (try dsimp only at hSw); obtain ⟨-, -, q2, q3, q4⟩ := (HS0.out W).1 hSw; have hcv1 := bytes_str q2; have hcv2 := bytes_str q3; have hcv3 := bytes_str q4; clear q2 q3 q4; first | (go_simp; done) | (go_simp; with_reducible rfl)
      try simp only [Act.put, List.setIfInBounds_toArray, List.set_cons_zero, List.set_cons_succ]
      refine wpAnyD_take (i := 10) (oi := ⟨_, _, _, _, _, _⟩) (v := ?_) rfl (by kernel_rfl) (by kernel_rfl) (by kernel_rfl) (by kernel_rfl) (fun _ _ _ h => h) (fun W n h => HST.out W _ h (below_drewN _ W n)) (Or.inl (Or.inl ⟨by rfl, ?_⟩)) hSd ?_
      rotate_left
      · intro W hSw; (try dsimp only at hSw); obtain ⟨-, -, q2, q3, q4⟩ := (HS0.out W).1 hSw; have hcv1 := bytes_str q2; have hcv2 := bytes_str q3; have hcv3 := bytes_str q4; clear q2 q3 q4; first | (go_simp; done) | (go_simp; with_reducible rfl)
      try simp only [Act.put, List.setIfInBounds_toArray, List.set_cons_zero, List.set_cons_succ]
      refine wpAnyD_take (i := 11) (oi := ⟨_, _, _, _, _, _⟩) (v := ?_) rfl (by kernel_rfl) (by kernel_rfl) (by kernel_rfl) (by kernel_rfl) (fun _ _ _ h => h) (fun W n h => HST.out W _ h (below_drewN _ W n)) (Or.inl (Or.inl ⟨by rfl, ?_⟩)) hSd ?_
      rotate_left
      · intro W hSw; (try dsimp only at hSw); obtain ⟨-, -, q2, q3, q4⟩ := (HS0.out W).1 hSw; have hcv1 := bytes_str q2; have hcv2 := bytes_str q3; have hcv3 := bytes_str q4; clear q2 q3 q4; first | (go_simp; done) | (go_simp; with_reducible rfl)
      try simp only [Act.put, List.setIfInBounds_toArray, List.set_cons_zero, List.set_cons_succ]
      refine wpAnyD_take (i := 12) (oi := ⟨_, _, _, _, _, _⟩) (v := ?_) rfl (by kernel_rfl) (by kernel_rfl) (by kernel_rfl) (by kernel_rfl) (fun _ _ _ h => h) (fun W n h => HST.out W _ h (below_drewN _ W n)) (Or.inl (Or.inl ⟨by rfl, ?_⟩)) hSd ?_
      rotate_left
      · intro W hSw; (try dsimp only at hSw); obtain ⟨-, -, q2, q3, q4⟩ := (HS0.out W).1 hSw; have hcv1 := bytes_str q2; have hcv2 := bytes_str q3; have hcv3 := bytes_str q4; clear q2 q3 q4; first | (go_simp; done) | (go_simp; with_reducible rfl)
      try simp only [Act.put, List.setIfInBounds_toArray, List.set_cons_zero, List.set_cons_succ]
      refine wpAnyD_take (i := 13) (oi := ⟨_, _, _, _, _, _⟩) (v := ?_) rfl (by kernel_rfl) (by kernel_rfl) (by kernel_rfl) (by kernel_rfl) (fun _ _ _ h => h) (fun W n h => HST.out W _ h (below_drewN _ W n)) (Or.inl (Or.inl ⟨by rfl, ?_⟩)) hSd ?_
      rotate_left
      · intro W hSw; (try dsimp only at hSw); obtain ⟨-, -, q2, q3, q4⟩ := (HS0.out W).1 hSw; have hcv1 := bytes_str q2; have hcv2 := bytes_str q3; have hcv3 := bytes_str q4; clear q2 q3 q4; first | (go_simp; done) | (go_simp; with_reducible rfl)
      try simp only [Act.put, List.setIfInBounds_toArray, List.set_cons_zero, List.set_cons_succ]
      refine wpAnyD_take (i := 14) (oi := ⟨_, _, _, _, _, _⟩) (v := ?_) rfl (by kernel_rfl) (by kernel_rfl) (by kernel_rfl) (by kernel_rfl) (fun _ _ _ h => h) (fun W n h => HST.out W _ h (below_drewN _ W n)) (Or.inl (Or.inl ⟨by rfl, ?_⟩)) hSd ?_
      rotate_left
      · intro W hSw; (try dsimp only at hSw); obtain ⟨-, -, q2, q3, q4⟩ := (HS0.out W).1 hSw; have hcv1 := bytes_str q2; have hcv2 := bytes_str q3; have hcv3 := bytes_str q4; clear q2 q3 q4; first | (go_simp; done) | (go_simp; with_reducible rfl)
      try simp only [Act.put, List.setIfInBounds_toArray, List.set_cons_zero, List.set_cons_succ]
      refine wpAnyD_take (i := 15) (oi := ⟨_, _, _, _, _, _⟩) (v := ?_) rfl (by kernel_rfl) (by kernel_rfl) (by kernel_rfl) (by kernel_rfl) (fun _ _ _ h => h) (fun W n h => HST.out W _ h (below_drewN _ W n)) (Or.inl (Or.inl ⟨by rfl, ?_⟩)) hSd ?_
      rotate_left
      · intro W hSw; (try dsimp only at hSw); obtain ⟨-, -, q2, q3, q4⟩ := (HS0.out W).1 hSw; have hcv1 := bytes_str q2; have hcv2 := bytes_str q3; have hcv3 := bytes_str q4; clear q2 q3 q4; first | (go_simp; done) | (go_simp; with_reducible rfl)
      try simp only [Act.put, List.setIfInBounds_toArray, List.set_cons_zero, List.set_cons_succ]
      refine wpAnyD_take (i := 16) (oi := ⟨_, _, _, _, _, _⟩) (v := ?_) rfl (by kernel_rfl) (by kernel_rfl) (by kernel_rfl) (by kernel_rfl) (fun _ _ _ h => h) (fun W n h => HST.out W _ h (below_drewN _ W n)) (Or.inl (Or.inl ⟨by rfl, ?_⟩)) hSd ?_
      rotate_left
      · intro W hSw; (try dsimp only at hSw); obtain ⟨-, -, q2, q3, q4⟩ := (HS0.out W).1 hSw; have hcv1 := bytes_str q2; have hcv2 := bytes_str q3; have hcv3 := bytes_str q4; clear q2 q3 q4; first | (go_simp; done) | (go_simp; with_reducible rfl)
      try simp only [Act.put, List.setIfInBounds_toArray, List.set_cons_zero, List.set_cons_succ]
      refine wpAnyD_take (i := 17) (oi := ⟨_, _, _, _, _, _⟩) (v := ?_) rfl (by kernel_rfl) (by kernel_rfl) (by kernel_rfl) (by kernel_rfl) (fun _ _ _ h => h) (fun W n h => HST.out W _ h (below_drewN _ W n)) (Or.inl (Or.inl ⟨by rfl, ?_⟩)) hSd ?_
      rotate_left
      · intro W hSw; (try dsimp only at hSw); obtain ⟨-, -, q2, q3, q4⟩ := (HS0.out W).1 hSw; have hcv1 := bytes_str q2; have hcv2 := bytes_str q3; have hcv3 := bytes_str q4; clear q2 q3 q4; first | (go_simp; done) | (go_simp; with_reducible rfl)
      try simp only [Act.put, List.setIfInBounds_toArray, List.set_cons_zero, List.set_cons_succ]
      refine wpAnyD_take (i := 18) (oi := ⟨_, _, _, _, _, _⟩) (v := ?_) rfl (by kernel_rfl) (by kernel_rfl) (by kernel_rfl) (by kernel_rfl) (fun _ _ _ h => h) (fun W n h => HST.out W _ h (below_drewN _ W n)) (Or.inl (Or.inl ⟨by rfl, ?_⟩)) hSd ?_
      rotate_left
      · intro W hSw; (try dsimp only at hSw); obtain ⟨-, -, q2, q3, q4⟩ := (HS0.out W).1 hSw; have hcv1 := bytes_str q2; have hcv2 := bytes_str q3; have hcv3 := bytes_str q4; clear q2 q3 q4; first | (go_simp; done) | (go_simp; with_reducible rfl)
      try simp only [Act.put, List.setIfInBounds_toArray, List.set_cons_zero, List.set_cons_succ]
      refine wpAnyD_take (i := 19) (oi := ⟨_, _, _, _, _, _⟩) (v := ?_) rfl (by kernel_rfl) (by kernel_rfl) (by kernel_rfl) (by kernel_rfl) (fun _ _ _ h => h) (fun W n h => HST.out W _ h (below_drewN _ W n)) (Or.inl (Or.inl ⟨by rfl, ?_⟩)) hSd ?_
      rotate_left
      · intro W hSw; (try dsimp only at hSw); obtain ⟨-, -, q2, q3, q4⟩ := (HS0.out W).1 hSw; have hcv1 := bytes_str q2; have hcv2 := bytes_str q3; have hcv3 := bytes_str q4; clear q2 q3 q4; first | (go_simp; done) | (go_simp; with_reducible rfl)
      try simp only [Act.put, List.setIfInBounds_toArray, List.set_cons_zero, List.set_cons_succ]
      refine wpAnyD_take (i := 20) (oi := ⟨_, _, _, _, _, _⟩) (v := ?_) rfl (by kernel_rfl) (by kernel_rfl) (by kernel_rfl) (by kernel_rfl) (fun _ _ _ h => h) (fun W n h => HST.out W _ h (below_drewN _ W n)) (Or.inl (Or.inl ⟨by rfl, ?_⟩)) hSd ?_
      rotate_left
      · intro W hSw; (try dsimp only at hSw); obtain ⟨-, -, q2, q3, q4⟩ := (HS0.out W).1 hSw; have hcv1 := bytes_str q2; have hcv2 := bytes_str q3; have hcv3 := bytes_str q4; clear q2 q3 q4; first | (go_simp; done) | (go_simp; with_reducible rfl)
      try simp only [Act.put, List.setIfInBounds_toArray, List.set_cons_zero, List.set_cons_succ]
      refine wpAnyD_take (i := 21) (oi := ⟨_, _, _, _, _, _⟩) (v := ?_) rfl (by kernel_rfl) (by kernel_rfl) (by kernel_rfl) (by kernel_rfl) (fun _ _ _ h => h) (fun W n h => HST.out W _ h (below_drewN _ W n)) (Or.inl (Or.inl ⟨by rfl, ?_⟩)) hSd ?_
      rotate_left
      · intro W hSw; (try dsimp only at hSw); obtain ⟨-, -, q2, q3, q4⟩ := (HS0.out W).1 hSw; have hcv1 := bytes_str q2; have hcv2 := bytes_str q3; have hcv3 := bytes_str q4; clear q2 q3 q4; first | (go_simp; done) | (go_simp; with_reducible rfl)
      try simp only [Act.put, List.setIfInBounds_toArray, List.set_cons_zero, List.set_cons_succ]
      refine wpAnyD_take (i := 22) (oi := ⟨_, _, _, _, _, _⟩) (v := ?_) rfl (by kernel_rfl) (by kernel_rfl) (by kernel_rfl) (by kernel_rfl) (fun _ _ _ h => h) (fun W n h => HST.out W _ h (below_drewN _ W n)) (Or.inl (Or.inl ⟨by rfl, ?_⟩)) hSd ?_
      rotate_left
      · intro W hSw; (try dsimp only at hSw); obtain ⟨-, -, q2, q3, q4⟩ := (HS0.out W).1 hSw; have hcv1 := bytes_str q2; have hcv2 := bytes_str q3; have hcv3 := bytes_str q4; clear q2 q3 q4; first | (go_simp; done) | (go_simp; with_reducible rfl)
      try simp only [Act.put, List.setIfInBounds_toArray, List.set_cons_zero, List.set_cons_succ]
      refine wpAnyD_take (i := 23) (oi := ⟨_, _, _, _, _, _⟩) (v := ?_) rfl (by kernel_rfl) (by kernel_rfl) (by kernel_rfl) (by kernel_rfl) (fun _ _ _ h => h) (fun W n h => HST.out W _ h (below_drewN _ W n)) (Or.inl (Or.inl ⟨by rfl, ?_⟩)) hSd ?_
      rotate_left
      · intro W hSw; (try dsimp only at hSw); obtain ⟨-, -, q2, q3, q4⟩ := (HS0.out W).1 hSw; have hcv1 := bytes_str q2; have hcv2 := bytes_str q3; have hcv3 := bytes_str q4; clear q2 q3 q4; first | (go_simp; done) | (go_simp; with_reducible rfl)
      try simp only [Act.put, List.setIfInBounds_toArray, List.set_cons_zero, List.set_cons_succ]
      refine wpAnyD_take (i := 25) (oi := ⟨_, _, _, _, _, _⟩) (v := ?_) rfl (by kernel_rfl) (by kernel_rfl) (by kernel_rfl) (by kernel_rfl) (fun _ _ _ h => h) (fun W n h => HST.out W _ h (below_drewN _ W n)) (Or.inl (Or.inl ⟨by rfl, ?_⟩)) hSd ?_
      rotate_left
      · intro W hSw; (try dsimp only at hSw); obtain ⟨-, -, q2, q3, q4⟩ := (HS0.out W).1 hSw; have hcv1 := bytes_str q2; have hcv2 := bytes_str q3; have hcv3 := bytes_str q4; clear q2 q3 q4; first | (go_simp; done) | (go_simp; with_reducible rfl)
      try simp only [Act.put, List.setIfInBounds_toArray, List.set_cons_zero, List.set_cons_succ]
      refine wpAnyD_take (i := 26) (oi := ⟨_, _, _, _, _, _⟩) (v := ?_) rfl (by kernel_rfl) (by kernel_rfl) (by kernel_rfl) (by kernel_rfl) (fun _ _ _ h => h) (fun W n h => HST.out W _ h (below_drewN _ W n)) (Or.inl (Or.inl ⟨by rfl, ?_⟩)) hSd ?_
      rotate_left
      · intro W hSw; (try dsimp only at hSw); obtain ⟨-, -, q2, q3, q4⟩ := (HS0.out W).1 hSw; have hcv1 := bytes_str q2; have hcv2 := bytes_str q3; have hcv3 := bytes_str q4; clear q2 q3 q4; first | (go_simp; done) | (go_simp; with_reducible rfl)
      try simp only [Act.put, List.setIfInBounds_toArray, List.set_cons_zero, List.set_cons_succ]
      clear hSd
      refine wpAnyD_one (i := 24) (o := ⟨_, _, _, _, _, _⟩) (by kernel_rfl) (by decide) rfl (fun nq K hK0 => ?_)
      have hK := Lib.hid hK0
      clear hK0
      have HSc := Lib.hid (HST.out _ _ HSc.out (below_drewN _ w5.drew nq))
      generalize w5.drew.drewN nq = wd24 at *
      go_simp
      refine (HN.out wd24 HSc.out).mono ?_
      rintro e we24 ⟨rfl, hb⟩
      have HSc := Lib.hid (HST.out _ _ HSc.out hb)
      clear hb
      try go_wp2_with fail
      refine hK.out _ _ HSc.out ?_
      clear hK K
      try simp only [Act.put, List.setIfInBounds_toArray, List.set_cons_zero, List.set_cons_succ]
      have hSd := HSc.out
      clear hSd
      refine wpAnyD_one (i := 27) (o := ⟨_, _, _, _, _, _⟩) (by kernel_rfl) (by decide) rfl (fun nq K hK0 => ?_)
      have hK := Lib.hid hK0
      clear hK0
      have HSc := Lib.hid (HST.out _ _ HSc.out (below_drewN _ we24 nq))
      generalize we24.drewN nq = wd27 at *
      go_simp
      refine (HR3.out wd27).mono ?_
      rintro e we27 ⟨rfl, hb⟩
      have HSc := Lib.hid (HST.out _ _ HSc.out hb)
      clear hb
      try go_wp2_with fail
      refine hK.out _ _ HSc.out ?_
      clear hK K
      try simp only [Act.put, List.setIfInBounds_toArray, List.set_cons_zero, List.set_cons_succ]
      have hSd := HSc.out
      refine wpAnyD_take (i := 28) (oi := ⟨_, _, _, _, _, _⟩) (v := ?_) rfl (by kernel_rfl) (by kernel_rfl) (by kernel_rfl) (by kernel_rfl) (fun _ _ _ h => h) (fun W n h => HST.out W _ h (below_drewN _ W n)) (Or.inl (Or.inl ⟨by rfl, ?_⟩)) hSd ?_
      rotate_left
      · intro W hSw; (try dsimp only at hSw); obtain ⟨-, -, q2, q3, q4⟩ := (HS0.out W).1 hSw; have hcv1 := bytes_str q2; have hcv2 := bytes_str q3; have hcv3 := bytes_str q4; clear q2 q3 q4; first | (go_simp; done) | (go_simp; with_reducible rfl)
      try simp only [Act.put, List.setIfInBounds_toArray, List.set_cons_zero, List.set_cons_succ]
      refine wpAnyD_take (i := 29) (oi := ⟨_, _, _, _, _, _⟩) (v := ?_) rfl (by kernel_rfl) (by kernel_rfl) (by kernel_rfl) (by kernel_rfl) (fun _ _ _ h => h) (fun W n h => HST.out W _ h (below_drewN _ W n)) (Or.inl (Or.inl ⟨by rfl, ?_⟩)) hSd ?_
      rotate_left
      · intro W hSw; (try dsimp only at hSw); obtain ⟨-, -, q2, q3, q4⟩ := (HS0.out W).1 hSw; have hcv1 := bytes_str q2; have hcv2 := bytes_str q3; have hcv3 := bytes_str q4; clear q2 q3 q4; first | (go_simp; done) | (go_simp; with_reducible rfl)
      try simp only [Act.put, List.setIfInBounds_toArray, List.set_cons_zero, List.set_cons_succ]
      refine wpAnyD_take (i := 30) (oi := ⟨_, _, _, _, _, _⟩) (v := ?_) rfl (by kernel_rfl) (by kernel_rfl) (by kernel_rfl) (by kernel_rfl) (fun _ _ _ h => h) (fun W n h => HST.out W _ h (below_drewN _ W n)) (Or.inl (Or.inl ⟨by rfl, ?_⟩)) hSd ?_
      rotate_left
      · intro W hSw; (try dsimp only at hSw); obtain ⟨-, -, q2, q3, q4⟩ := (HS0.out W).1 hSw; have hcv1 := bytes_str q2; have hcv2 := bytes_str q3; have hcv3 := bytes_str q4; clear q2 q3 q4; first | (go_simp; done) | (go_simp; with_reducible rfl)
      try simp only [Act.put, List.setIfInBounds_toArray, List.set_cons_zero, List.set_cons_succ]
      clear hSd
      refine wpAnyD_last (by kernel_rfl) (fun nd => ?_)
      refine wpOp_one rfl (by rfl) ?_
      have HSc := Lib.hid (HST.out _ _ HSc.out (below_drewN _ we27 nd))
      generalize we27.drewN nd = wz at *
      go_simp
      go_wp2_with fail
      go_ret
      exact ⟨rfl, HFIN.out _ HSc.out⟩
end Go.Proofs.YtdolonkeanlaoaaDoor
