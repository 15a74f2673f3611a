/- The walk of object's entries. -/
import Derived.Test.YtdolonkeanlaoaaDoorObS
namespace Go.Proofs.YtdolonkeanlaoaaDoor
open Go.RowKit
attribute [local simp high] id_size id_zero ent_size ent_zero n32_ne n35_ne

theorem Rows5.two {B n : Nat} {w7 w8 : World} {q1 q2 : Five} {y1 y2 : Val} (hw : w8.heap[w7.heap.size]? = some (.cells (q1.flat ++ q2.flat).toArray 53 (0, 0))) (hk : ∀ k, k < w7.heap.size → w8.heap[k]? = w7.heap[k]?) (hs : w7.heap.size < w8.heap.size) (hB : B ≤ w7.heap.size)
    (h1 : ReadsS (fun k => B ≤ k ∧ k < w7.heap.size) w7 n q1.agg y1) (h2 : ReadsS (fun k => B ≤ k ∧ k < w7.heap.size) w7 n q2.agg y2) : Rows5 B w8 n (.slice (some ⟨w7.heap.size, 0, none⟩) 2 2) [q1, q2] [y1, y2] := by
  have keep : ∀ k, (B ≤ k ∧ k < w7.heap.size) → (B ≤ k ∧ k < w8.heap.size ∧ (Value.slice (some ⟨w7.heap.size, 0, none⟩) 2 2).ownBlock ≠ some k) ∧ w8.heap[k]? = w7.heap[k]? := fun k h => ⟨⟨h.1, by omega, by simp [Value.ownBlock]; omega⟩, hk k h.2⟩
  refine ⟨⟨by simp [Five.flat], Or.inr ⟨w7.heap.size, 2, _, rfl, hB, hw, Nat.le_refl _, by unfold maxLen; omega, by simp [Five.flat], by simp [Five.flat]⟩⟩, rfl, fun j q y hq hy => ?_⟩
  match j, hq, hy with
  | 0, hq, hy => injection hq with hq; injection hy with hy; subst hq hy; exact ReadsS.kept keep n _ _ h1
  | 1, hq, hy => injection hq with hq; injection hy with hy; subst hq hy; exact ReadsS.kept keep n _ _ h2
theorem deep_ent (n : Nat) (e : EntN) : Deep (n + 2) (entV e) := by
  unfold entV
  refine deep_row fun x hx => ?_
  cases h : e.folder with
  | true =>
    rw [h] at hx
    simp at hx
    rcases hx with rfl | rfl <;> exact deep_text _ _
  | false =>
    rw [h] at hx
    simp at hx
    rcases hx with rfl | rfl | rfl <;> first | exact deep_text _ _ | exact deep_real _ _
set_option maxRecDepth 100000 in
set_option maxHeartbeats 8000000 in
theorem wents_any (S : Nat → Prop) (v : Value) (l : List EntN) (w : World) (hS : ∀ k, S k → k < w.heap.size) (hv : EntsC S w v l) (hl : l.length ≤ 1048576) (hid : ∀ e ∈ l, e.name.length ≤ 1048576 ∧ e.id.length = 32 ∧ e.stamp < 18446744073709551616) :
    Calls Tryd.prog 38 #[v] w (ValP 15 (rowV (l.map fun e => entV (canonE e))) w) := by
  have hst := run_storeF
  obtain ⟨la, lc, rfl⟩ := RowsC.shape hv
  obtain ⟨i0, hi, hz0, hz1, hz2q⟩ := info_parts Tryd.info53
  have HV := Lib.hid (fun (W : World) (hb : Below w.heap.size w W) => RowsC.kept ent_keeps hv (S' := S) (w' := W) (fun k hk => ⟨hk, hb.block k (hS k hk)⟩))
  have HSS := Lib.hid hS
  have HID := Lib.hid hid
  obtain ⟨m, hm⟩ : ∃ m, l.length = m := ⟨_, rfl⟩
  have HM := Lib.hid hm
  rw [hm] at hl HV ⊢
  have hst0 : RStart w (w.alloc (.cells #[.int .i64 0, .int .u64 0, .slice none 0 0, .float .f64 0, .slice none 0 0] 53)) := RStart.of (Below.refl _ _)
  have H0 := Lib.hid hst0
  clear hv hS hm hst0 hid
  go_enter Tryd.func38, Tryd.ntmps38
  go_wp2_with fail
  go_loopw [3, 9] (fun v i wr => ∃ (k : Nat) (qs : List Five), k ≤ m ∧ i = .int .i64 (k : Int) ∧ Hid (qs.length = k) ∧ Hid (Rows5 (w.heap.size + 1) wr 14 v qs ((l.map fun e => entV (canonE e)).take k)) ∧ Hid (RStart w wr)) (fun _ i _ => m - (intOf i).toNat)
  case atStart => exact ⟨0, [], Nat.zero_le _, rfl, Lib.hid rfl, Lib.hid (Rows5.nil _ _ _), H0⟩
  case round =>
    obtain ⟨k, qs, hk, rfl, hQ, hR, hS1⟩ := hrel
    have hsz := hS1.out.size
    by_cases hlt : k < m
    · obtain ⟨g, o, rfl, hSg, _, hc2, hat⟩ := EntsC.row (k := k) (show EntsC S wr (.slice la l.length lc) l by rw [HM.out]; exact HV.out wr hS1.out.below) (by rw [HM.out]; exact hlt)
      have hg : g < wr.heap.size := Nat.lt_of_lt_of_le (HSS.out g hSg) hS1.out.below.size
      have c1 := hat wr rfl
      obtain ⟨hf1, hf2, hf3⟩ := HID.out _ (getD_mem (d := noEnt) (by rw [HM.out]; exact hlt))
      have HNL := Lib.hid hf1
      have HFI := Lib.hid hf2
      have HFS := Lib.hid hf3
      have HTK : Hid ((l.map fun e => entV (canonE e)).take (k + 1) = (l.map fun e => entV (canonE e)).take k ++ [entV (canonE (l.getD k noEnt))]) := Lib.hid (by
        have hkl : k < l.length := by rw [HM.out]; exact hlt
        rw [List.take_succ_eq_append_getElem (by simpa using hkl)]
        simp [List.getD, hkl])
      clear hat hf1 hf2 hf3
      generalize l.getD k noEnt = f at *
      have i1 := RF.new wr 45 n35 (entF noEnt)
      have c2 := i1.write (ent_one f n35)
      have HI := Lib.hid (i1.put (entF f))
      have HW := Lib.hid (below_setRow ((Below.refl wr.heap.size wr).alloc (Nat.le_refl _) (.cells (rowL n35 (entF noEnt)).toArray 45)) (Nat.le_refl _) (rowL n35 (entF f)).toArray)
      have HZ : Hid (((wr.alloc (.cells (rowL n35 (entF noEnt)).toArray 45)).setRow wr.heap.size (rowL n35 (entF f)).toArray).heap.size = wr.heap.size + 1) := Lib.hid (by simp [World.setRow])
      have hol := rowL_len n35 (entF f)
      have hol2 := rowL_len n35 (entF noEnt)
      clear i1
      go_upto_region 5 with fail
      clear c1 c2 hol hol2
      generalize (wr.alloc (.cells (rowL n35 (entF noEnt)).toArray 45)).setRow wr.heap.size (rowL n35 (entF f)).toArray = w5 at *
      obtain ⟨fb, hfb⟩ : ∃ fb, wr.heap.size = fb := ⟨_, rfl⟩
      rw [hfb] at HI ⊢
      have HFB := Lib.hid hfb
      have HK : Hid (∀ W : World, Below w5.heap.size w5 W → W.cell? ⟨fb, 0, none⟩ = some (.string ⟨f.name.toArray⟩) ∧ (loadCellsFrom ⟨fb, 2, none⟩ 0 n32 #[]).run Tryd.prog W = .ok (bv f.id).toArray W) := Lib.hid (fun W hW => by
        have h := HI.out.kept (hW.block fb HI.out.lt)
        refine ⟨h.cell (k := 0) (by unfold n35; omega), ?_⟩
        rw [← ent_id HFI.out]
        exact h.load (o := 2) (m := n32) (by unfold n35 n32; omega))
      clear hfb
      refine wp_region_held_drew (S := (fun W => W.cell? ⟨fb, 0, none⟩ = some (.string ⟨f.name.toArray⟩) ∧ (loadCellsFrom ⟨fb, 2, none⟩ 0 n32 #[]).run Tryd.prog W = .ok (bv f.id).toArray W)) (by kernel_rfl) (by exact HK.out _ (drewn _ w5 1)) (fun hHeld => ?_)
      refine wpAnyH_take (i := 0) (oi := ⟨_, _, _, _, _, _⟩) (v := ?_) rfl (by kernel_rfl) (by kernel_rfl) (by kernel_rfl) (fun _ _ _ h => h) (Or.inl ⟨by rfl, ?_⟩) (by assumption) ?_
      rotate_left
      · intro w hSw; (try dsimp only at hSw); first | (go_simp; done) | (go_simp; with_reducible rfl)
      try simp only [Act.put, List.setIfInBounds_toArray, List.set_cons_zero, List.set_cons_succ]
      refine wpAnyH_take (i := 1) (oi := ⟨_, _, _, _, _, _⟩) (v := ?_) rfl (by kernel_rfl) (by kernel_rfl) (by kernel_rfl) (fun _ _ _ h => h) (Or.inl ⟨by rfl, ?_⟩) (by assumption) ?_
      rotate_left
      · intro w hSw; (try dsimp only at hSw); first | (go_simp; done) | (go_simp; with_reducible rfl)
      try simp only [Act.put, List.setIfInBounds_toArray, List.set_cons_zero, List.set_cons_succ]
      refine wpAnyH_take (i := 3) (oi := ⟨_, _, _, _, _, _⟩) (v := ?_) rfl (by kernel_rfl) (by kernel_rfl) (by kernel_rfl) (fun _ _ _ h => h) (Or.inl ⟨by rfl, ?_⟩) (by assumption) ?_
      rotate_left
      · intro w hSw; (try dsimp only at hSw); first | (go_simp; done) | (go_simp; with_reducible rfl)
      try simp only [Act.put, List.setIfInBounds_toArray, List.set_cons_zero, List.set_cons_succ]
      refine wpAnyH_take (i := 4) (oi := ⟨_, _, _, _, _, _⟩) (v := ?_) rfl (by kernel_rfl) (by kernel_rfl) (by kernel_rfl) (fun _ _ _ h => h) (Or.inl ⟨by rfl, ?_⟩) (by assumption) ?_
      rotate_left
      · intro w hSw; (try dsimp only at hSw); first | (go_simp; done) | (go_simp; with_reducible rfl)
      try simp only [Act.put, List.setIfInBounds_toArray, List.set_cons_zero, List.set_cons_succ]
      refine wpAnyH_ready (rs := [2]) (by kernel_rfl) (by simp) ?_
      refine AllReadyH.cons (o := ⟨_, _, _, _, _, _⟩) rfl (fun K hK => ?_) AllReadyH.nil
      go_simp
      refine (text_any f.name w5.drew HNL.out).mono ?_
      rintro e w6 ⟨vb, rfl, hbv, hb6⟩
      obtain ⟨ba, bc, rfl⟩ := hbv.shape
      have HBV1 := Lib.hid hbv
      have HB6 : Hid (Below w5.heap.size w5 w6) := Lib.hid ((drewn _ w5 1).trans hb6)
      clear hbv hb6
      try go_wp2_with fail
      refine hK.out _ _ (by exact HK.out _ (Hid.out (by assumption))) (fun hHeld => ?_)
      clear hK K
      try simp only [Act.put, List.setIfInBounds_toArray, List.set_cons_zero, List.set_cons_succ]
      refine wpAnyH_ready (rs := [5]) (by kernel_rfl) (by simp) ?_
      refine AllReadyH.cons (o := ⟨_, _, _, _, _, _⟩) rfl (fun K hK => ?_) AllReadyH.nil
      go_simp
      refine (oname_any f.id w6 HFI.out).mono ?_
      rintro e w7 ⟨vc, rfl, hbv, hb7⟩
      obtain ⟨ca, cc, rfl⟩ := hbv.shape
      have HBV2 := Lib.hid hbv
      have HBV1 : Hid (BytesC (fun q => w5.heap.size ≤ q ∧ q < w6.heap.size) w7 (.slice ba f.name.length bc) f.name) := Lib.hid (HBV1.out.kept (fun q hq => ⟨hq, hb7.block q hq.2⟩))
      have HZ67 := Lib.hid hb7.size
      have HZ56 := Lib.hid HB6.out.size
      have HB7 : Hid (Below w5.heap.size w5 w7) := Lib.hid (HB6.out.trans (hb7.mono HB6.out.size))
      clear hbv hb7 HB6
      try go_wp2_with fail
      refine hK.out _ _ (by exact HK.out _ (Hid.out (by assumption))) (fun hHeld => ?_)
      clear hK K
      try simp only [Act.put, List.setIfInBounds_toArray, List.set_cons_zero, List.set_cons_succ]
      refine wpAnyH_ready (rs := [6]) (by kernel_rfl) (by simp) ?_
      refine AllReadyH.cons (o := ⟨_, _, _, _, _, _⟩) rfl (fun K hK => ?_) AllReadyH.nil
      go_simp
      refine any_stepC (fun w8 hN => ?_)
      have HN8 := Lib.hid hN
      have HB8 : Hid (Below w5.heap.size w5 w8) := Lib.hid (by rw [hN]; first | exact HB7.out.alloc HB7.out.size _ | exact (HB7.out.alloc HB7.out.size _).drew)
      clear hN
      try go_wp2_with fail
      refine hK.out _ _ (by exact HK.out _ (Hid.out (by assumption))) (fun hHeld => ?_)
      clear hK K
      try simp only [Act.put, List.setIfInBounds_toArray, List.set_cons_zero, List.set_cons_succ]
      refine wpAnyH_take (i := 7) (oi := ⟨_, _, _, _, _, _⟩) (v := ?_) rfl (by kernel_rfl) (by kernel_rfl) (by kernel_rfl) (fun _ _ _ h => h) (Or.inl ⟨by rfl, ?_⟩) (by assumption) ?_
      rotate_left
      · intro w hSw; (try dsimp only at hSw); first | (go_simp; done) | (go_simp; with_reducible rfl)
      try simp only [Act.put, List.setIfInBounds_toArray, List.set_cons_zero, List.set_cons_succ]
      refine wpAnyH_done (by kernel_rfl) ?_ _
      clear hHeld

      have hz5 := HZ.out
      have HRX : Hid (Rows5 (wr.heap.size + 1) w8 13 (.slice (some ⟨w7.heap.size, 0, none⟩) 2 2) [⟨.int .i64 1, .int .u64 (0 : Nat), .slice ba f.name.length bc, .float .f64 (0 : Nat), .slice none 0 0⟩, ⟨.int .i64 1, .int .u64 (0 : Nat), .slice ca f.id.length cc, .float .f64 (0 : Nat), .slice none 0 0⟩] [textV f.name, textV f.id]) := Lib.hid (by
        refine Rows5.two (w7 := w7) (by rw [HN8.out]; first | exact new_five _ _ _ | exact new_five w7 _ _) (fun k hk => by rw [HN8.out]; first | exact Below.heap_alloc _ _ _ hk | exact Below.heap_alloc w7 _ _ hk) (by rw [HN8.out]; first | (simp; done) | (show _ < (w7.alloc _).heap.size; simp)) (by have := HB7.out.size; omega) ?_ ?_
        · exact text_reads 12 (HBV1.out.kept (fun q hq => ⟨⟨by have := hq.1; omega, by have := hq.2; have := HZ67.out; omega⟩, rfl⟩)) HNL.out
        · exact text_reads 12 (HBV2.out.kept (fun q hq => ⟨⟨by have := hq.1; have := HZ67.out; have := HZ56.out; omega, hq.2⟩, rfl⟩)) (by rw [HFI.out]; omega))
      have HBX : Hid (Below wr.heap.size wr w8) := Lib.hid (HW.out.trans (HB8.out.mono (by omega)))
      have HF8 := Lib.hid (HI.out.kept (HB8.out.block fb HI.out.lt))
      have HIDL : Hid (f.id.length = 32) := HFI
      clear HN8 HBV1 HBV2
      obtain ⟨n1, hn1⟩ : ∃ n, f.name.length = n := ⟨_, rfl⟩
      obtain ⟨n2, hn2⟩ : ∃ n, f.id.length = n := ⟨_, rfl⟩
      rw [hn1, hn2] at HRX ⊢
      clear hn1 hn2
      have hfold : w8.cell? ⟨fb, 1, none⟩ = some (.bool f.folder) := HF8.out.cell (k := 1) (by unfold n35; omega)
      obtain ⟨fo, hfo⟩ : ∃ b, f.folder = b := ⟨_, rfl⟩
      rw [hfo] at hfold
      cases fo with
      | true =>
        have HEV : Hid (entV (canonE f) = rowV [textV f.name, textV f.id]) := Lib.hid (by unfold entV canonE; simp [hfo])
        have HR6 := HRX
        clear hfo
        have HLL := Lib.hid HR6.out.list
        have HDP : Hid (∀ x ∈ [textV f.name, textV f.id], Deep 13 x) := Lib.hid (fun x hx => by
          simp only [List.mem_cons, List.not_mem_nil, or_false] at hx
          rcases hx with rfl | rfl | rfl <;> first | exact deep_text _ _ | exact deep_real _ _)
        have HRW := Lib.hid (row_any 13 _ _ [textV f.name, textV f.id] w8 (fun q hq => hq.2) (by simp) HDP.out HLL.out)
        have HBW := HBX
        clear HLL
        go_wp2_with fail
        refine HRW.out.mono ?_
        rintro e w10 ⟨vr, rfl, hvr, hb10⟩
        obtain ⟨va, vc, rfl⟩ := hvr.shape
        have HB10 : Hid (Below wr.heap.size wr w10) := Lib.hid (HBW.out.trans (hb10.mono HBW.out.size))
        have hz10 := HB10.out.size
        have HRD : Hid (ReadsS (fun j => wr.heap.size ≤ j ∧ j < w10.heap.size) w10 14 (.agg #[.int .i64 3, .int .u64 (0 : Nat), .slice none 0 0, .float .f64 (0 : Nat), .slice va 2 vc]) (rowV [textV f.name, textV f.id])) := Lib.hid (row_reads (n := 13) (hvr.kept (by simp) (fun j hj => ⟨⟨by have := hj.1; have := HBW.out.size; omega, hj.2⟩, rfl⟩)) (by simp))
        have hown0 : w10.ownsRow (w.heap.size + 1) 53 5 _ qs.length (qs.flatMap Five.flat) := own_below hR.out.own (fun j _ hj => HB10.out.block j hj)
        have hsrc := five_src w10 3 0 none va 0 0 2 vc 0
        have HBE : Hid (Below wr.heap.size wr (w10.alloc (.cells #[.int .i64 3, .int .u64 0, .slice none 0 0, .float .f64 0, .slice va 2 vc] 53))) := Lib.hid (HB10.out.alloc (by omega) _)
        have HQK := hQ
        rw [hQ.out] at hown0
        clear hvr hb10
        go_wp2_with (at_builtin; refine wpList_own_src _ rfl _ _ 51 51 rfl (w.heap.size + 1) 53 i0 _ 5 72 Tryd.underlying51 hi hz0 hz1 hz2q rfl (by decide) _ _ _ rfl (hown0.alloc _) _ 1 _ rfl hsrc ?c3 ?c4 ?c5 ?_)
        case c3 => unfold maxLen; omega
        case c4 => omega
        case c5 => simp; omega
        intro v7 w11 hown7 hg7
        have hvb := fun j hj => (World.ownsRow.lt hown0 j hj).1
        rw [← HQK.out] at hown7
        have HN := Lib.hid (Rows5.grow (q := ⟨.int .i64 3, .int .u64 (0 : Nat), .slice none 0 0, .float .f64 (0 : Nat), .slice va 2 vc⟩) hR.out hsz hz10 (fun j _ hj => HB10.out.block j hj) HRD.out hg7 hown7)
        have HS7 : Hid (RStart w w11) := Lib.hid (by
          have hgz := hg7.size
          have hb7 : Below (w.heap.size + 1) wr w11 := (HBE.out.mono hsz).grown hg7.gb (by simp; omega) hvb
          exact ⟨(hb7.block w.heap.size (by omega)).trans hS1.out.blk, hS1.out.below.trans (hb7.mono (by omega)), by have := hb7.size; omega⟩)
        clear hown0 hown7 hg7 hvb hsrc
        go_wp2_with fail
        go_roundw
        case rel => exact ⟨k + 1, qs ++ [⟨.int .i64 3, .int .u64 (0 : Nat), .slice none 0 0, .float .f64 (0 : Nat), .slice va 2 vc⟩], by omega, by go_num, Lib.hid (by have := HQK.out; simp; omega), Lib.hid (by rw [HTK.out, HEV.out]; exact HN.out), HS7⟩
        case measure => simp [intOf]; omega
      | false =>
        have HEV : Hid (entV (canonE f) = rowV [textV f.name, textV f.id, realV (canonB f.stamp)]) := Lib.hid (by unfold entV canonE; simp [hfo])
        have hst8 : w8.cell? ⟨fb, 34, none⟩ = some (.float .f64 f.stamp) := HF8.out.cell (k := 34) (by unfold n35; omega)
        clear hfo
        go_wp2_with fail
        refine (real_any f.stamp w8).mono ?_
        rintro e w9 ⟨rfl, hb9⟩
        have HB9 : Hid (Below w8.heap.size w8 w9) := Lib.hid hb9
        have hz9 := hb9.size
        have HCF : Hid (canonB f.stamp < 18446744073709551616) := Lib.hid (canonB_lt HFS.out)
        have hownr : w9.ownsRow (wr.heap.size + 1) 53 5 (.slice (some ⟨w7.heap.size, 0, none⟩) 2 2) 2 _ := own_below HRX.out.own (fun j _ hj => HB9.out.block j hj)
        have hsrcr := five_src w9 2 0 none none 0 0 0 0 (canonB f.stamp)
        have hz8 : wr.heap.size + 1 ≤ w8.heap.size := by have := HB8.out.size; omega
        clear hb9 hst8 hfold
        generalize canonB f.stamp = cf at *
        go_wp2_with (at_builtin; refine wpList_own_src _ rfl _ _ 51 51 rfl (wr.heap.size + 1) 53 i0 _ 5 72 Tryd.underlying51 hi hz0 hz1 hz2q rfl (by decide) _ _ _ rfl (hownr.alloc _) _ 1 _ rfl hsrcr ?e3 ?e4 ?e5 ?_)
        case e3 => unfold maxLen; omega
        case e4 => omega
        case e5 => simp; omega
        intro v9 wa hown9 hg9
        obtain ⟨a9, c9, rfl⟩ := row_shape_any hown9
        have HR6 : Hid (Rows5 (wr.heap.size + 1) wa 13 (.slice a9 3 c9) ([⟨.int .i64 1, .int .u64 (0 : Nat), .slice ba n1 bc, .float .f64 (0 : Nat), .slice none 0 0⟩, ⟨.int .i64 1, .int .u64 (0 : Nat), .slice ca n2 cc, .float .f64 (0 : Nat), .slice none 0 0⟩] ++ [⟨.int .i64 2, .int .u64 (0 : Nat), .slice none 0 0, .float .f64 cf, .slice none 0 0⟩]) ([textV f.name, textV f.id] ++ [realV cf])) := Lib.hid (Rows5.grow (q := ⟨.int .i64 2, .int .u64 (0 : Nat), .slice none 0 0, .float .f64 cf, .slice none 0 0⟩) HRX.out (by omega) hz9 (fun j _ hj => HB9.out.block j hj) (real_reads 12 cf HCF.out) hg9 hown9)
        have HBX : Hid (Below wr.heap.size wr wa) := Lib.hid (((HBX.out.trans (HB9.out.mono (by omega))).alloc (by omega) _).grown hg9.gb (by simp; omega) (fun j hj => by have := (World.ownsRow.lt hownr j hj).1; omega))
        clear hown9 hg9 hownr hsrcr
        have HLL := Lib.hid HR6.out.list
        have HDP : Hid (∀ x ∈ [textV f.name, textV f.id, realV cf], Deep 13 x) := Lib.hid (fun x hx => by
          simp only [List.mem_cons, List.not_mem_nil, or_false] at hx
          rcases hx with rfl | rfl | rfl <;> first | exact deep_text _ _ | exact deep_real _ _)
        have HRW := Lib.hid (row_any 13 _ _ [textV f.name, textV f.id, realV cf] wa (fun q hq => hq.2) (by simp) HDP.out HLL.out)
        have HBW := HBX
        clear HLL
        go_wp2_with fail
        refine HRW.out.mono ?_
        rintro e w10 ⟨vr, rfl, hvr, hb10⟩
        obtain ⟨va, vc, rfl⟩ := hvr.shape
        have HB10 : Hid (Below wr.heap.size wr w10) := Lib.hid (HBW.out.trans (hb10.mono HBW.out.size))
        have hz10 := HB10.out.size
        have HRD : Hid (ReadsS (fun j => wr.heap.size ≤ j ∧ j < w10.heap.size) w10 14 (.agg #[.int .i64 3, .int .u64 (0 : Nat), .slice none 0 0, .float .f64 (0 : Nat), .slice va 3 vc]) (rowV [textV f.name, textV f.id, realV cf])) := Lib.hid (row_reads (n := 13) (hvr.kept (by simp) (fun j hj => ⟨⟨by have := hj.1; have := HBW.out.size; omega, hj.2⟩, rfl⟩)) (by simp))
        have hown0 : w10.ownsRow (w.heap.size + 1) 53 5 _ qs.length (qs.flatMap Five.flat) := own_below hR.out.own (fun j _ hj => HB10.out.block j hj)
        have hsrc := five_src w10 3 0 none va 0 0 3 vc 0
        have HBE : Hid (Below wr.heap.size wr (w10.alloc (.cells #[.int .i64 3, .int .u64 0, .slice none 0 0, .float .f64 0, .slice va 3 vc] 53))) := Lib.hid (HB10.out.alloc (by omega) _)
        have HQK := hQ
        rw [hQ.out] at hown0
        clear hvr hb10
        go_wp2_with (at_builtin; refine wpList_own_src _ rfl _ _ 51 51 rfl (w.heap.size + 1) 53 i0 _ 5 72 Tryd.underlying51 hi hz0 hz1 hz2q rfl (by decide) _ _ _ rfl (hown0.alloc _) _ 1 _ rfl hsrc ?d3 ?d4 ?d5 ?_)
        case d3 => unfold maxLen; omega
        case d4 => omega
        case d5 => simp; omega
        intro v7 w11 hown7 hg7
        have hvb := fun j hj => (World.ownsRow.lt hown0 j hj).1
        rw [← HQK.out] at hown7
        have HN := Lib.hid (Rows5.grow (q := ⟨.int .i64 3, .int .u64 (0 : Nat), .slice none 0 0, .float .f64 (0 : Nat), .slice va 3 vc⟩) hR.out hsz hz10 (fun j _ hj => HB10.out.block j hj) HRD.out hg7 hown7)
        have HS7 : Hid (RStart w w11) := Lib.hid (by
          have hgz := hg7.size
          have hb7 : Below (w.heap.size + 1) wr w11 := (HBE.out.mono hsz).grown hg7.gb (by simp; omega) hvb
          exact ⟨(hb7.block w.heap.size (by omega)).trans hS1.out.blk, hS1.out.below.trans (hb7.mono (by omega)), by have := hb7.size; omega⟩)
        clear hown0 hown7 hg7 hvb hsrc
        go_wp2_with fail
        go_roundw
        case rel => exact ⟨k + 1, qs ++ [⟨.int .i64 3, .int .u64 (0 : Nat), .slice none 0 0, .float .f64 (0 : Nat), .slice va 3 vc⟩], by omega, by go_num, Lib.hid (by have := HQK.out; simp; omega), Lib.hid (by rw [HTK.out, HEV.out]; exact HN.out), HS7⟩
        case measure => simp [intOf]; omega
    · have hkm : k = m := by omega
      have HL : Hid (ListS (fun q => w.heap.size + 1 ≤ q ∧ q < wr.heap.size) wr (ReadsS (fun q => w.heap.size + 1 ≤ q ∧ q < wr.heap.size) wr 14) _ (l.map fun e => entV (canonE e))) := Lib.hid (by
        have := hR.out.list
        rw [hkm, List.take_of_length_le (by rw [List.length_map, HM.out]; omega)] at this
        exact this)
      obtain ⟨ra, rc, hev⟩ := ListS.shape HL.out
      rw [hev] at HL ⊢
      have HR := Lib.hid (row_any 14 _ _ (l.map fun e => entV (canonE e)) wr (fun q hq => hq.2) (by rw [List.length_map, HM.out]; omega) (fun x hx => by obtain ⟨y, _, rfl⟩ := List.mem_map.1 hx; exact deep_ent _ _) HL.out)
      obtain ⟨ml, hml⟩ : ∃ ml, (l.map fun e => entV (canonE e)).length = ml := ⟨_, rfl⟩
      have HML : Hid ((l.map fun e => entV (canonE e)).length ≤ 1048576) := Lib.hid (by rw [List.length_map, HM.out]; omega)
      rw [hml] at HR ⊢
      clear hkm hev HL hml
      go_wp2_with fail
      refine HR.out.mono ?_
      rintro e w6 ⟨vr, rfl, hvr, hb6⟩
      obtain ⟨va, vc, rfl⟩ := hvr.shape
      have HS6 := Lib.hid (hS1.out.step hb6)
      obtain ⟨⟨c0, c1, c2, c3, c4⟩, z0, z1, z2, z3, z4⟩ := five_cells HS6.out.blk
      have HV6 := Lib.hid hvr
      obtain ⟨ml, hml⟩ : ∃ ml, (l.map fun e => entV (canonE e)).length = ml := ⟨_, rfl⟩
      rw [hml] at HV6 ⊢
      clear hvr hb6 hml
      go_wp2_with fail
      obtain ⟨r0, r1, r2, r3, r4⟩ := set5_cells c0 c1 c2 c3 c4 (.int .i64 3) (.int .u64 0) (.slice none 0 0) (.float .f64 0) (.slice va ml vc)
      unfold set5 at r0 r1 r2 r3 r4
      refine bodyPost_ret (v := .agg #[.int .i64 3, .int .u64 0, .slice none 0 0, .float .f64 0, .slice va ml vc]) (by simp [results, Tryd.results38, go_sem, r0, r1, r2, r3, r4]) rfl ⟨_, rfl, ?_, HS6.out.fin _ _ _ _ _⟩
      refine row_reads (n := 14) ?_ HML.out
      have hsz2 := HS6.out.size
      exact HV6.out.kept (w' := set5 w6 w.heap.size (.int .i64 3) (.int .u64 0) (.slice none 0 0) (.float .f64 0) (.slice va ml vc)) HML.out (fun q hq => ⟨⟨by have := hq.1; omega, by show q < (set5 w6 w.heap.size _ _ _ _ _).heap.size; rw [set5_size]; exact hq.2⟩, set5_block _ _ _ _ _ _ _ _ (by have := hq.1; omega)⟩)
end Go.Proofs.YtdolonkeanlaoaaDoor
