/- The reference's Match. -/
import Derived.Test.YthigepjddfdbmaaDoorGlobZg
import Derived.Deep.RegionHeld3
namespace Go.Proofs.YthigepjddfdbmaaDoor
open Go.RowKit Go.Lib
/-- The row after one piece more. -/
def rowX (f : Nat → Bool) (x : Option (Txt → Bool)) (L : List Txt) : Nat → Bool
  | 0 => x.isNone && f 0
  | k + 1 => match x with
    | none => f (k + 1) || rowX f x L k
    | some g => f k && g (L.getD k [])
theorem rowX_many (f : Nat → Bool) (L : List Txt) (k : Nat) : rowX f none L (k + 1) = (f (k + 1) || rowX f none L k) := rfl
theorem rowX_one (f : Nat → Bool) (g : Txt → Bool) (L : List Txt) (k : Nat) : rowX f (some g) L (k + 1) = (f k && g (L.getD k [])) := rfl
theorem rowX_iff {ps : List (Option (Txt → Bool))} {L : List Txt} {i : Nat} {x : Option (Txt → Bool)} {f : Nat → Bool} (hp : ps[i]? = some x) (hf : ∀ k, k ≤ L.length → (f k = true ↔ rowM ps L i k)) :
    ∀ k, k ≤ L.length → (rowX f x L k = true ↔ rowM ps L (i + 1) k) := by
  cases x with
  | none =>
    intro k
    induction k with
    | zero =>
      intro hk
      rw [rowM_many hp hk, ← hf 0 hk]
      show (true && f 0) = true ↔ _
      simp
    | succ k ih =>
      intro hk
      rw [rowM_many hp hk, rowX_many, ← hf _ hk, Bool.or_eq_true, Nat.add_sub_cancel, ih (by omega)]
      simp
  | some s =>
    intro k hk
    cases k with
    | zero =>
      rw [rowM_one hp hk []]
      show (false && f 0) = true ↔ _
      simp
    | succ k =>
      rw [rowM_one hp hk [], rowX_one, Nat.add_sub_cancel, Bool.and_eq_true, hf k (by omega)]
      simp
theorem readN_len : ∀ {L : List Txt} {ps : List PieceN}, readN L = some ps → ps.length = L.length
  | [], ps, h => by injection h with h; subst h; rfl
  | t :: r, ps, h => by
    rw [readN_cons] at h
    cases hp : pieceN t with
    | none => rw [hp] at h; cases h
    | some p =>
      cases hr : readN r with
      | none => rw [hp, hr] at h; cases h
      | some l =>
        rw [hp, hr] at h
        injection h with h
        subst h
        rw [List.length_cons, List.length_cons, readN_len hr]
theorem readN_at : ∀ {L : List Txt} {ps : List PieceN} {k : Nat}, readN L = some ps → k < L.length → pieceN (L.getD k []) = some (ps.getD k none)
  | [], _, _, _, h => absurd h (Nat.not_lt_zero _)
  | t :: r, ps, k, h, hk => by
    rw [readN_cons] at h
    cases hp : pieceN t with
    | none => rw [hp] at h; cases h
    | some p =>
      cases hr : readN r with
      | none => rw [hp, hr] at h; cases h
      | some l =>
        rw [hp, hr] at h
        injection h with h
        subst h
        cases k with
        | zero => exact hp
        | succ k =>
          show pieceN (r.getD k []) = some (l.getD k none)
          exact readN_at hr (by simpa using hk)
theorem parse_in {s : Txt} {ps : List PieceN} (h : parseN s = .ok ps) : readN (splitL s) = some ps ∧ s ≠ [] := by
  unfold parseN at h
  split at h
  · cases h
  · cases hr : readN (splitL s) with
    | none => rw [hr] at h; cases h
    | some l =>
      rw [hr] at h
      injection h with h
      subst h
      refine ⟨rfl, fun e => ?_⟩
      subst e
      cases hr
theorem piece_in {t : Txt} {l : List (Option S4)} (h : pieceN t = some (some l)) : signsGo t.length t = some l ∧ t ≠ [42, 42] := by
  unfold pieceN at h
  split at h
  · cases h
  · split at h
    · injection h with h; cases h
    · rename_i h2
      cases hs : signsGo t.length t with
      | none => rw [hs] at h; cases h
      | some m =>
        rw [hs] at h
        injection h with h; injection h with h
        subst h
        exact ⟨rfl, h2⟩
theorem piece_two {t : Txt} (h : pieceN t = some none) : t = [42, 42] := by
  unfold pieceN at h
  split at h
  · cases h
  · split at h
    · rename_i h2; exact h2
    · cases hs : signsGo t.length t with
      | none => rw [hs] at h; cases h
      | some m => rw [hs] at h; injection h with h; cases h
set_option maxRecDepth 100000 in
set_option maxHeartbeats 8000000 in
theorem rmatch_any (pat s : Txt) (w : World) (hp : pat.length ≤ 4000000) (hm : s.length ≤ 3999990) {ps : List PieceN} (hok : parseN pat = .ok ps) :
    Calls Tryd.prog 13 #[.string ⟨pat.toArray⟩, .string ⟨s.toArray⟩] w (TruthP (Mt (itemsP ps) (namesL s)) w) := by
  obtain ⟨i0, hi, hz0, hz1, hz2⟩ := info_parts Tryd.info4b
  obtain ⟨hrd, hne⟩ := parse_in hok
  obtain ⟨L, hL⟩ : ∃ L, namesL pat = L := ⟨_, rfl⟩
  rw [← names_split hne, hL] at hrd
  have hpl := readN_len hrd
  have HRD := Lib.hid (fun k (hk : k < L.length) => readN_at hrd hk)
  obtain ⟨M, hM⟩ : ∃ M, namesL s = M := ⟨_, rfl⟩
  have hMl := namesL_len s
  have hLl := namesL_len pat
  have HNL := Lib.hid (namesL_short pat)
  have HNM := Lib.hid (namesL_short s)
  rw [hM] at hMl HNM ⊢
  rw [hL] at hLl HNL
  have HS1 := Lib.hid (rsplit_any pat w (by omega))
  rw [hL] at HS1
  clear hrd hne hok hL
  go_enter Tryd.func13, Tryd.ntmps13
  go_wp2_with fail
  refine HS1.out.mono ?_
  rintro e w1 ⟨v1, rfl, hv1, hb1⟩
  have HV1 := Lib.hid (ownS_c hv1)
  obtain ⟨va, vc, rfl⟩ := ownS_slice hv1
  have HB1 := Lib.hid hb1
  have HS2 := Lib.hid (rsplit_any s w1 (by omega))
  rw [hM] at HS2
  clear hv1 hb1 HS1 hM
  go_wp2_with fail
  refine HS2.out.mono ?_
  rintro e w2 ⟨v2, rfl, hv2, hb2⟩
  have HV2 := Lib.hid (ownS_c hv2)
  obtain ⟨ua, uc, rfl⟩ := ownS_slice hv2
  have HB2 : Hid (Below w.heap.size w w2) := Lib.hid (HB1.out.trans (hb2.mono HB1.out.size))
  have HV1' : Hid (StrsC (fun k => k < w2.heap.size) w2 (.slice va L.length vc) L) := Lib.hid (HV1.out.kept (fun k hk => ⟨Nat.lt_of_lt_of_le hk.2 hb2.size, hb2.block k hk.2⟩))
  clear hv2 hb2 HS2 HV1 HB1
  go_upto_region 4 with (at_make; refine wpList_make_full _ rfl _ _ 52 rfl w2.heap.size 4 i0 (.bool false) 1 Tryd.underlying52 hi hz0 hz1 .i64 .i64 _ _ (M.length + 1) rfl rfl (by omega) (by omega) (by rw [hz2]; omega) (by unfold maxLen; omega) (by omega) ?_; intro w3 hown hgrow)
  have hlt1 : w2.heap.size < w3.heap.size := (hown.lt _ rfl).2
  have HB3 : Hid (Below w2.heap.size w2 w3) := Lib.hid ((Below.refl _ w2).grown hgrow (Nat.le_refl _) (fun j hj => by cases hj))
  have hbt := Bits.made hown hlt1
  have b0 := hbt.cs 0 (by omega)
  have b1 := hbt.fr 0
  have HBT : Hid (Bits (w3.setCell ⟨w2.heap.size, 0, none⟩ (.bool true)) w2.heap.size (M.length + 1) (fun i => decide (i = 0))) := Lib.hid (hbt.put (by omega) (fun p _ => by by_cases e : p = 0 <;> simp [e]))
  have HB4 : Hid (Below w2.heap.size w2 (w3.setCell ⟨w2.heap.size, 0, none⟩ (.bool true))) := Lib.hid (HB3.out.setCell (Nat.le_refl _) _)
  have HF0 : Hid (∀ k, k ≤ M.length → (decide (k = 0) = true ↔ rowM (itemsP ps) M 0 k)) := Lib.hid (fun k hk => by rw [decide_eq_true_eq, rowM_start hk])
  clear hbt hown hgrow hlt1 HB3
  go_upto_region 5 with fail
  clear b0 b1
  generalize w3.setCell ⟨w2.heap.size, 0, none⟩ (.bool true) = w4 at *
  go_wp2_with fail
  go_loopw [7, 8] (fun o i wr => ∃ (rb k : Nat) (f : Nat → Bool), o = .slice (some ⟨rb, 0, none⟩) (M.length + 1) (M.length + 1) ∧ i = .int .i64 (k : Int) ∧ k ≤ L.length ∧ Hid (w2.heap.size ≤ rb) ∧ Hid (Bits wr rb (M.length + 1) f) ∧ Hid (∀ p, p ≤ M.length → (f p = true ↔ rowM (itemsP ps) M k p)) ∧ Hid (Below w2.heap.size w2 wr)) (fun _ i _ => L.length - (intOf i).toNat)
  case atStart => exact ⟨_, 0, _, rfl, rfl, Nat.zero_le _, Lib.hid (Nat.le_refl _), HBT, HF0, HB4⟩
  case round =>
    obtain ⟨rb, k, f, rfl, rfl, hk, HRB, HBT2, HF, HB5⟩ := hrel
    by_cases hlt : k < L.length
    · obtain ⟨⟨pb, po, pf⟩, rfl, hvS, _, hxs⟩ := StrsC.at HV1'.out (by omega)
      have HPC := Lib.hid (fun (W : World) (hW : Below w2.heap.size w2 W) => (World.cell?_of_block (w := w2) (w' := W) (a := (⟨pb, po, pf⟩ : Addr).add k) (by rw [add_block]; exact hW.block pb hvS)).trans (hxs k hlt))
      have HPN := Lib.hid (HRD.out k hlt)
      have HIT := Lib.hid (itemsP_at (ps := ps) (k := k) (by omega))
      have htl : (L.getD k []).length ≤ 4000000 := by have := HNL.out _ (getD_in (d := []) hlt); omega
      clear hxs hvS
      generalize L.getD k [] = t at *
      generalize ps.getD k none = pc at *
      have HRF := Lib.hid (rowX_iff HIT.out HF.out)
      have HRBL : Hid (rb < wr.heap.size) := Lib.hid HBT2.out.lt
      go_upto_region 9 with (at_make; refine wpList_make_full _ rfl _ _ 52 rfl wr.heap.size 4 i0 (.bool false) 1 Tryd.underlying52 hi hz0 hz1 .i64 .i64 _ _ (M.length + 1) rfl rfl (by omega) (by omega) (by rw [hz2]; omega) (by unfold maxLen; omega) (by omega) ?_; intro w5 hown hgrow)
      have hlt5 : wr.heap.size < w5.heap.size := (hown.lt _ rfl).2
      have hB5 : Below wr.heap.size wr w5 := (Below.refl _ wr).grown hgrow (Nat.le_refl _) (fun j hj => by cases hj)
      obtain ⟨nb, hnb⟩ : ∃ nb, wr.heap.size = nb := ⟨_, rfl⟩
      obtain ⟨F, hF⟩ : ∃ F, rowX f (pc.map meansB) M = F := ⟨_, rfl⟩
      have HFE := Lib.hid hF
      rw [hF] at HRF
      clear hF
      have HN5 : Hid (Bits w5 nb (M.length + 1) (upTo F 0)) := Lib.hid (by
        rw [← hnb]
        exact (Bits.made hown hlt5).congr (fun p _ => by unfold upTo; rw [if_neg (by omega)]))
      have HR5 : Hid (Bits w5 rb (M.length + 1) f) := Lib.hid (HBT2.out.kept (hB5.block rb HRBL.out) hB5.size)
      have HW5 : Hid (Below w2.heap.size w2 w5) := Lib.hid (HB5.out.trans (hB5.mono HB5.out.size))
      have HNE : Hid (rb ≠ nb ∧ w2.heap.size ≤ nb) := Lib.hid ⟨by have := HRBL.out; omega, by have := HB5.out.size; omega⟩
      rw [hnb]
      clear hown hgrow hlt5 hB5 hnb HBT2 HB5
      go_wp2_with fail
      go_loopw [10] (fun i wz => ∃ q : Nat, q ≤ M.length + 1 ∧ i = .int .i64 (q : Int) ∧ Hid (Bits wz nb (M.length + 1) (upTo F q)) ∧ Hid (Bits wz rb (M.length + 1) f) ∧ Hid (Below w2.heap.size w2 wz)) (fun i _ => M.length + 1 - (intOf i).toNat)
      case atStart => exact ⟨0, Nat.zero_le _, rfl, HN5, HR5, HW5⟩
      case round =>
        obtain ⟨q, hq, rfl, HN, HR, HW⟩ := hrel
        by_cases hqn : q ≤ M.length
        · have cst := HPC.out _ HW.out
          have bn := HN.out.cs q (by omega)
          have fn := HN.out.fr q
          have HPUT : Hid (∀ r, F q = r → Bits (wr.setCell ⟨nb, q, none⟩ (.bool r)) nb (M.length + 1) (upTo F (q + 1))) := Lib.hid (fun r hr => HN.out.put (by omega) (fun p _ => by rw [upTo_succ, hr]))
          have HRK := Lib.hid (fun v => (HR.out.kept (w' := wr.setCell ⟨nb, q, none⟩ v) (Below.heap_setCell _ _ _ _ HNE.out.1) (by simp [World.setCell])))
          cases pc with
          | none =>
            have g42 : (t == [42, 42]) = true := by rw [piece_two HPN.out]; rfl
            have g43 : t = [42, 42] := piece_two HPN.out
            have bq := HR.out.cs q (by omega)
            generalize hfq : f q = fq at *
            have HFQ := Lib.hid hfq
            clear hfq
            cases fq
            · cases q with
              | zero =>
                go_wp2_with fail
                exact ⟨⟨1, by omega, by go_num, Lib.hid (HPUT.out _ (by rw [← HFE.out]; show (true && f 0) = false; rw [HFQ.out]; rfl)), Lib.hid (HRK.out _), Lib.hid (HW.out.setCell HNE.out.2 _)⟩, by simp [intOf]⟩
              | succ q =>
                have bp := (HN.out.cs q (by omega))
                rw [upTo_in (Nat.lt_succ_self q)] at bp
                have HP2 : Hid (F (q + 1) = F q) := Lib.hid (by
                  rw [← HFE.out]
                  show rowX f none M (q + 1) = rowX f none M q
                  rw [rowX_many, HFQ.out]; rfl)
                generalize hgq : F q = gq at bp
                have HGQ := Lib.hid hgq
                clear hgq
                go_wp2_with fail
                exact ⟨⟨q + 1 + 1, by omega, by go_num, Lib.hid (HPUT.out _ (HP2.out.trans HGQ.out)), Lib.hid (HRK.out _), Lib.hid (HW.out.setCell HNE.out.2 _)⟩, by simp [intOf]; omega⟩
            · go_wp2_with fail
              exact ⟨⟨q + 1, by omega, by go_num, Lib.hid (HPUT.out _ (by
                rw [← HFE.out]
                cases q with
                | zero => show (true && f 0) = true; rw [HFQ.out]; rfl
                | succ q =>
                  show rowX f none M (q + 1) = true
                  rw [rowX_many, HFQ.out]; rfl)), Lib.hid (HRK.out _), Lib.hid (HW.out.setCell HNE.out.2 _)⟩, by simp [intOf]; omega⟩
          | some l =>
            obtain ⟨hsg, h42⟩ := piece_in HPN.out
            have g42 : (t == [42, 42]) = false := by simpa using h42
            go_upto_region 14 with fail
            have HWD : Hid (∀ v, Below w2.heap.size w2 ((wr.drewN 1).setCell ⟨nb, q, none⟩ v)) := Lib.hid (fun v => (HW.out.trans (drewn _ _ _)).setCell HNE.out.2 _)
            have HRDD : Hid (∀ v, Bits ((wr.drewN 1).setCell ⟨nb, q, none⟩ v) rb (M.length + 1) f) := Lib.hid (fun v => (HR.out.kept (w' := (wr.drewN 1).setCell ⟨nb, q, none⟩ v) ((Below.heap_setCell (wr.drewN 1) _ _ _ HNE.out.1).trans rfl) (by simp [World.setCell])))
            have HPD : Hid (∀ r, F q = r → Bits ((wr.drewN 1).setCell ⟨nb, q, none⟩ (.bool r)) nb (M.length + 1) (upTo F (q + 1))) := Lib.hid (fun r hr => (HN.out.kept (w' := wr.drewN 1) rfl (Nat.le_refl _)).put (by omega) (fun p _ => by rw [upTo_succ, hr]))
            have hb0 : (q : Int) < (M.length : Int) + 1 := by omega
            by_cases hq0 : 0 < q
            · have g0 : decide (0 < q) = true := decide_eq_true hq0
              obtain ⟨p, hp⟩ : ∃ p, q = p + 1 := ⟨q - 1, by omega⟩
              have hpi : (q : Int) - 1 = (p : Int) := by omega
              have hpw : IntKind.i64.wrap ((q : Int) - 1) = (p : Int) := by rw [hpi]; exact IntWalk.i64_in _ (by omega)
              have bp := HR.out.cs p (by omega)
              have hb1 : (p : Int) < (M.length : Int) + 1 := by omega
              have hb2 : (p : Int) < (M.length : Int) := by omega
              have hb3 : (k : Int) < (L.length : Int) := by omega
              have HRV : Hid (F q = (f p && meansB l (M.getD p []))) := Lib.hid (by rw [← HFE.out, hp]; rfl)
              obtain ⟨⟨mb, mo, mf⟩, rfl, hmS, _, hys⟩ := StrsC.at HV2.out (by omega)
              have cy := (World.cell?_of_block (w := w2) (w' := wr) (a := (⟨mb, mo, mf⟩ : Addr).add p) (by rw [add_block]; exact HW.out.block mb hmS.2)).trans (hys p (by omega))
              have hyl : (M.getD p []).length ≤ 4000000 := by have := HNM.out _ (getD_in (d := []) (show p < M.length by omega)); omega
              have HY0 := Lib.hid (hys p (by omega))
              have HMS : Hid (mb < w2.heap.size) := Lib.hid hmS.2
              clear hys hmS
              generalize M.getD p [] = x at *
              generalize hfp : f p = fp at *
              have HFP := Lib.hid hfp
              clear hq0 hpi hp bn hfp
              cases fp
              · have HRV2 : Hid (F q = false) := HRV
                clear cst cy
                refine region_sth 24 (by kernel_rfl) (by kernel_rfl) ?_
                simp only [List.take_succ_cons, List.take_zero, List.drop_succ_cons, List.drop_zero]
                iterate 12 (refine sth_want (by kernel_rfl) ?_; intro K hK; go_simp; refine hK _ ?_; clear hK K)
                iterate 10 (refine sth_skip (by kernel_rfl) ?_)
                iterate 2 (refine sth_want (by kernel_rfl) ?_; intro K hK; go_simp; refine hK _ ?_; clear hK K)
                refine sth_nil ?_
                change wpList _ _ _ _ _ (wr.drewN 1)
                have b9 : (wr.drewN 1).cell? ⟨nb, q, none⟩ = some (.bool (upTo F q q)) := HN.out.cs q (by omega)
                have f9 : (wr.drewN 1).frozen? ⟨nb, q, none⟩ = false := HN.out.fr q
                generalize upTo F q q = oldv at b9
                generalize wr.drewN 1 = wd at *
                go_wp2_with fail
                exact ⟨⟨q + 1, by omega, by go_num, Lib.hid (HPD.out _ HRV2.out), Lib.hid (HRDD.out _), Lib.hid (HWD.out _)⟩, by simp [intOf]; omega⟩
              · have HRV2 : Hid (F q = meansB l x) := HRV
                have HNA := Lib.hid (fun W => rname_any t x W htl hyl hsg)
                have HC1 := Lib.hid bp
                have HYC := Lib.hid (fun (W : World) (hW : Below w2.heap.size w2 W) => (World.cell?_of_block (w := w2) (w' := W) (a := (⟨mb, mo, mf⟩ : Addr).add p) (by rw [add_block]; exact hW.block mb HMS.out)).trans HY0.out)
                have HRL := Lib.hid HR.out.lt
                have HNL2 := Lib.hid HN.out.lt
                clear bp cst cy fn
                refine wp_region_held_drew (S := (fun W => W.cell? ⟨rb, p, none⟩ = some (.bool true) ∧ W.cell? ((⟨pb, po, pf⟩ : Addr).add k) = some (.string ⟨t.toArray⟩) ∧ W.cell? ((⟨mb, mo, mf⟩ : Addr).add p) = some (.string ⟨x.toArray⟩))) (by kernel_rfl) (by exact ⟨HC1.out, HPC.out _ (HW.out.trans (below_drewN _ wr 1)), HYC.out _ (HW.out.trans (below_drewN _ wr 1))⟩) (fun hHeld => ?_)
                have HDR : Hid (Below wr.heap.size wr wr.drew) := Lib.hid (below_drewN _ wr 1)
                obtain ⟨wd, hwd⟩ : ∃ W, wr.drew = W := ⟨_, rfl⟩
                rw [hwd] at HDR ⊢
                first | rw [hwd] at hHeld | skip
                clear hwd
                refine wpAnyH_take (i := 0) (oi := ⟨_, _, _, _, _, _⟩) (v := ?_) rfl (by kernel_rfl) (by kernel_rfl) (by kernel_rfl) (fun _ _ _ h => h) (Or.inl ⟨by kernel_rfl, ?_⟩) (by assumption) ?_
                rotate_left
                · intro w hSw; (try dsimp only at hSw); first | (go_simp; done) | (go_simp; with_reducible rfl)
                try simp only [Act.put, List.setIfInBounds_toArray, List.set_cons_zero, List.set_cons_succ]
                refine wpAnyH_take (i := 1) (oi := ⟨_, _, _, _, _, _⟩) (v := ?_) rfl (by kernel_rfl) (by kernel_rfl) (by kernel_rfl) (fun _ _ _ h => h) (Or.inl ⟨by kernel_rfl, ?_⟩) (by assumption) ?_
                rotate_left
                · intro w hSw; (try dsimp only at hSw); first | (go_simp; done) | (go_simp; with_reducible rfl)
                try simp only [Act.put, List.setIfInBounds_toArray, List.set_cons_zero, List.set_cons_succ]
                refine wpAnyH_take (i := 2) (oi := ⟨_, _, _, _, _, _⟩) (v := ?_) rfl (by kernel_rfl) (by kernel_rfl) (by kernel_rfl) (fun _ _ _ h => h) (Or.inl ⟨by kernel_rfl, ?_⟩) (by assumption) ?_
                rotate_left
                · intro w hSw; (try dsimp only at hSw); first | (go_simp; done) | (go_simp; with_reducible rfl)
                try simp only [Act.put, List.setIfInBounds_toArray, List.set_cons_zero, List.set_cons_succ]
                refine wpAnyH_take (i := 3) (oi := ⟨_, _, _, _, _, _⟩) (v := ?_) rfl (by kernel_rfl) (by kernel_rfl) (by kernel_rfl) (fun _ _ _ h => h) (Or.inl ⟨by kernel_rfl, ?_⟩) (by assumption) ?_
                rotate_left
                · intro w hSw; (try dsimp only at hSw); first | (go_simp; done) | (go_simp; with_reducible rfl)
                try simp only [Act.put, List.setIfInBounds_toArray, List.set_cons_zero, List.set_cons_succ]
                refine wpAnyH_take (i := 4) (oi := ⟨_, _, _, _, _, _⟩) (v := ?_) rfl (by kernel_rfl) (by kernel_rfl) (by kernel_rfl) (fun _ _ _ h => h) (Or.inl ⟨by kernel_rfl, ?_⟩) (by assumption) ?_
                rotate_left
                · intro w hSw; (try dsimp only at hSw); first | (go_simp; done) | (go_simp; with_reducible rfl)
                try simp only [Act.put, List.setIfInBounds_toArray, List.set_cons_zero, List.set_cons_succ]
                refine wpAnyH_take (i := 5) (oi := ⟨_, _, _, _, _, _⟩) (v := ?_) rfl (by kernel_rfl) (by kernel_rfl) (by kernel_rfl) (fun _ _ _ h => h) (Or.inl ⟨by kernel_rfl, ?_⟩) (by assumption) ?_
                rotate_left
                · intro w hSw; (try dsimp only at hSw); first | (go_simp; done) | (go_simp; with_reducible rfl)
                try simp only [Act.put, List.setIfInBounds_toArray, List.set_cons_zero, List.set_cons_succ]
                refine wpAnyH_take (i := 6) (oi := ⟨_, _, _, _, _, _⟩) (v := ?_) rfl (by kernel_rfl) (by kernel_rfl) (by kernel_rfl) (fun _ _ _ h => h) (Or.inl ⟨by kernel_rfl, ?_⟩) (by assumption) ?_
                rotate_left
                · intro w hSw; (try dsimp only at hSw); first | (go_simp; done) | (go_simp; with_reducible rfl)
                try simp only [Act.put, List.setIfInBounds_toArray, List.set_cons_zero, List.set_cons_succ]
                refine wpAnyH_take (i := 7) (oi := ⟨_, _, _, _, _, _⟩) (v := ?_) rfl (by kernel_rfl) (by kernel_rfl) (by kernel_rfl) (fun _ _ _ h => h) (Or.inl ⟨by kernel_rfl, ?_⟩) (by assumption) ?_
                rotate_left
                · intro w hSw; (try dsimp only at hSw); first | (go_simp; done) | (go_simp; with_reducible rfl)
                try simp only [Act.put, List.setIfInBounds_toArray, List.set_cons_zero, List.set_cons_succ]
                refine wpAnyH_take (i := 8) (oi := ⟨_, _, _, _, _, _⟩) (v := ?_) rfl (by kernel_rfl) (by kernel_rfl) (by kernel_rfl) (fun _ _ _ h => h) (Or.inl ⟨by kernel_rfl, ?_⟩) (by assumption) ?_
                rotate_left
                · intro w hSw; (try dsimp only at hSw); first | (go_simp; done) | (go_simp; with_reducible rfl)
                try simp only [Act.put, List.setIfInBounds_toArray, List.set_cons_zero, List.set_cons_succ]
                refine wpAnyH_take (i := 9) (oi := ⟨_, _, _, _, _, _⟩) (v := ?_) rfl (by kernel_rfl) (by kernel_rfl) (by kernel_rfl) (fun _ _ _ h => h) (Or.inl ⟨by kernel_rfl, ?_⟩) (by assumption) ?_
                rotate_left
                · intro w hSw; (try dsimp only at hSw); first | (go_simp; done) | (go_simp; with_reducible rfl)
                try simp only [Act.put, List.setIfInBounds_toArray, List.set_cons_zero, List.set_cons_succ]
                refine wpAnyH_take (i := 10) (oi := ⟨_, _, _, _, _, _⟩) (v := ?_) rfl (by kernel_rfl) (by kernel_rfl) (by kernel_rfl) (fun _ _ _ h => h) (Or.inl ⟨by kernel_rfl, ?_⟩) (by assumption) ?_
                rotate_left
                · intro w hSw; (try dsimp only at hSw); first | (go_simp; done) | (go_simp; with_reducible rfl)
                try simp only [Act.put, List.setIfInBounds_toArray, List.set_cons_zero, List.set_cons_succ]
                refine wpAnyH_take (i := 11) (oi := ⟨_, _, _, _, _, _⟩) (v := ?_) rfl (by kernel_rfl) (by kernel_rfl) (by kernel_rfl) (fun _ _ _ h => h) (Or.inl ⟨by kernel_rfl, ?_⟩) (by assumption) ?_
                rotate_left
                · intro w hSw; (try dsimp only at hSw); first | (go_simp; done) | (go_simp; with_reducible rfl)
                try simp only [Act.put, List.setIfInBounds_toArray, List.set_cons_zero, List.set_cons_succ]
                refine wpAnyH_take (i := 12) (oi := ⟨_, _, _, _, _, _⟩) (v := ?_) rfl (by kernel_rfl) (by kernel_rfl) (by kernel_rfl) (fun _ _ _ h => h) (Or.inl ⟨by kernel_rfl, ?_⟩) (by assumption) ?_
                rotate_left
                · intro w hSw; (try dsimp only at hSw); first | (go_simp; done) | (go_simp; with_reducible rfl)
                try simp only [Act.put, List.setIfInBounds_toArray, List.set_cons_zero, List.set_cons_succ]
                refine wpAnyH_take (i := 13) (oi := ⟨_, _, _, _, _, _⟩) (v := ?_) rfl (by kernel_rfl) (by kernel_rfl) (by kernel_rfl) (fun _ _ _ h => h) (Or.inl ⟨by kernel_rfl, ?_⟩) (by assumption) ?_
                rotate_left
                · intro w hSw; (try dsimp only at hSw); first | (go_simp; done) | (go_simp; with_reducible rfl)
                try simp only [Act.put, List.setIfInBounds_toArray, List.set_cons_zero, List.set_cons_succ]
                refine wpAnyH_take (i := 14) (oi := ⟨_, _, _, _, _, _⟩) (v := ?_) rfl (by kernel_rfl) (by kernel_rfl) (by kernel_rfl) (fun _ _ _ h => h) (Or.inl ⟨by kernel_rfl, ?_⟩) (by assumption) ?_
                rotate_left
                · intro w hSw; (try dsimp only at hSw); first | (go_simp; done) | (go_simp; with_reducible rfl)
                try simp only [Act.put, List.setIfInBounds_toArray, List.set_cons_zero, List.set_cons_succ]
                refine wpAnyH_take (i := 15) (oi := ⟨_, _, _, _, _, _⟩) (v := ?_) rfl (by kernel_rfl) (by kernel_rfl) (by kernel_rfl) (fun _ _ _ h => h) (Or.inl ⟨by kernel_rfl, ?_⟩) (by assumption) ?_
                rotate_left
                · intro w hSw; (try dsimp only at hSw); first | (go_simp; done) | (go_simp; with_reducible rfl)
                try simp only [Act.put, List.setIfInBounds_toArray, List.set_cons_zero, List.set_cons_succ]
                refine wpAnyH_take (i := 16) (oi := ⟨_, _, _, _, _, _⟩) (v := ?_) rfl (by kernel_rfl) (by kernel_rfl) (by kernel_rfl) (fun _ _ _ h => h) (Or.inl ⟨by kernel_rfl, ?_⟩) (by assumption) ?_
                rotate_left
                · intro w hSw; (try dsimp only at hSw); first | (go_simp; done) | (go_simp; with_reducible rfl)
                try simp only [Act.put, List.setIfInBounds_toArray, List.set_cons_zero, List.set_cons_succ]
                refine wpAnyH_take (i := 17) (oi := ⟨_, _, _, _, _, _⟩) (v := ?_) rfl (by kernel_rfl) (by kernel_rfl) (by kernel_rfl) (fun _ _ _ h => h) (Or.inl ⟨by kernel_rfl, ?_⟩) (by assumption) ?_
                rotate_left
                · intro w hSw; (try dsimp only at hSw); first | (go_simp; done) | (go_simp; with_reducible rfl)
                try simp only [Act.put, List.setIfInBounds_toArray, List.set_cons_zero, List.set_cons_succ]
                refine wpAnyH_take (i := 18) (oi := ⟨_, _, _, _, _, _⟩) (v := ?_) rfl (by kernel_rfl) (by kernel_rfl) (by kernel_rfl) (fun _ _ _ h => h) (Or.inl ⟨by kernel_rfl, ?_⟩) (by assumption) ?_
                rotate_left
                · intro w hSw; (try dsimp only at hSw); first | (go_simp; done) | (go_simp; with_reducible rfl)
                try simp only [Act.put, List.setIfInBounds_toArray, List.set_cons_zero, List.set_cons_succ]
                refine wpAnyH_take (i := 19) (oi := ⟨_, _, _, _, _, _⟩) (v := ?_) rfl (by kernel_rfl) (by kernel_rfl) (by kernel_rfl) (fun _ _ _ h => h) (Or.inl ⟨by kernel_rfl, ?_⟩) (by assumption) ?_
                rotate_left
                · intro w hSw; (try dsimp only at hSw); first | (go_simp; done) | (go_simp; with_reducible rfl)
                try simp only [Act.put, List.setIfInBounds_toArray, List.set_cons_zero, List.set_cons_succ]
                refine wpAnyH_take (i := 20) (oi := ⟨_, _, _, _, _, _⟩) (v := ?_) rfl (by kernel_rfl) (by kernel_rfl) (by kernel_rfl) (fun _ _ _ h => h) (Or.inl ⟨by kernel_rfl, ?_⟩) (by assumption) ?_
                rotate_left
                · intro w hSw; (try dsimp only at hSw); first | (go_simp; done) | (go_simp; with_reducible rfl)
                try simp only [Act.put, List.setIfInBounds_toArray, List.set_cons_zero, List.set_cons_succ]
                refine wpAnyH_ready (rs := [21]) (by kernel_rfl) (by simp) ?_
                refine AllReadyH.cons (o := ⟨_, _, _, _, _, _⟩) rfl (fun K hK => ?_) AllReadyH.nil
                go_simp
                refine (HNA.out wd).mono ?_
                rintro e w9 ⟨r, rfl, hr, hb9⟩
                have HRE9 : Hid (F q = r) := Lib.hid (by rw [HRV2.out]; cases r with | true => rw [meansB_iff]; exact hr.1 rfl | false => rw [← Bool.not_eq_true, meansB_iff]; exact fun h => by have := hr.2 h; cases this)
                have HB9 : Hid (Below wr.heap.size wr w9) := Lib.hid (HDR.out.trans (hb9.mono HDR.out.size))
                have HS9 : Hid (w9.cell? ⟨rb, p, none⟩ = some (.bool true) ∧ w9.cell? ((⟨pb, po, pf⟩ : Addr).add k) = some (.string ⟨t.toArray⟩) ∧ w9.cell? ((⟨mb, mo, mf⟩ : Addr).add p) = some (.string ⟨x.toArray⟩)) := Lib.hid ⟨(World.cell?_of_block (w := wr) (HB9.out.block rb HRL.out)).trans HC1.out, HPC.out _ (HW.out.trans (HB9.out.mono HW.out.size)), HYC.out _ (HW.out.trans (HB9.out.mono HW.out.size))⟩
                clear hb9 hr
                go_simp
                refine hK.out _ _ (by exact HS9.out) (fun hHeld => ?_)
                clear hK K
                try simp only [Act.put, List.setIfInBounds_toArray, List.set_cons_zero, List.set_cons_succ]
                refine wpAnyH_take (i := 22) (oi := ⟨_, _, _, _, _, _⟩) (v := ?_) rfl (by kernel_rfl) (by kernel_rfl) (by kernel_rfl) (fun _ _ _ h => h) (Or.inl ⟨by kernel_rfl, ?_⟩) (by assumption) ?_
                rotate_left
                · intro w hSw; (try dsimp only at hSw); first | (go_simp; done) | (go_simp; with_reducible rfl)
                try simp only [Act.put, List.setIfInBounds_toArray, List.set_cons_zero, List.set_cons_succ]
                refine wpAnyH_take (i := 23) (oi := ⟨_, _, _, _, _, _⟩) (v := ?_) rfl (by kernel_rfl) (by kernel_rfl) (by kernel_rfl) (fun _ _ _ h => h) (Or.inl ⟨by kernel_rfl, ?_⟩) (by assumption) ?_
                rotate_left
                · intro w hSw; (try dsimp only at hSw); first | (go_simp; done) | (go_simp; with_reducible rfl)
                try simp only [Act.put, List.setIfInBounds_toArray, List.set_cons_zero, List.set_cons_succ]
                have hn9 := HN.out.kept (HB9.out.block nb HNL2.out) HB9.out.size
                have b9 := hn9.cs q (by omega)
                have f9 := hn9.fr q
                have HN9 := Lib.hid hn9
                clear hn9
                generalize upTo F q q = oldv at b9
                have HW9 : Hid (Below w2.heap.size w2 w9) := Lib.hid (HW.out.trans (HB9.out.mono HW.out.size))
                have HR99 : Hid (Bits w9 rb (M.length + 1) f) := Lib.hid (HR.out.kept (HB9.out.block rb HRL.out) HB9.out.size)
                have HSS : Hid (∀ v, (w9.setCell ⟨nb, q, none⟩ v).cell? ⟨rb, p, none⟩ = some (.bool true) ∧ (w9.setCell ⟨nb, q, none⟩ v).cell? ((⟨pb, po, pf⟩ : Addr).add k) = some (.string ⟨t.toArray⟩) ∧ (w9.setCell ⟨nb, q, none⟩ v).cell? ((⟨mb, mo, mf⟩ : Addr).add p) = some (.string ⟨x.toArray⟩)) := Lib.hid (fun v => ⟨(World.cell?_setCell_other _ _ _ _ (by intro c; injection c with c _ _; exact HNE.out.1 c.symm)).trans HS9.out.1, HPC.out _ (HW9.out.setCell HNE.out.2 v), HYC.out _ (HW9.out.setCell HNE.out.2 v)⟩)
                clear hHeld
                refine wpAnyH_ready (rs := [24]) (by kernel_rfl) (by simp) ?_
                refine AllReadyH.cons (o := ⟨_, _, _, _, _, _⟩) rfl (fun K hK => ?_) AllReadyH.nil
                go_simp
                refine hK.out _ _ (by exact HSS.out _) (fun hHeld => ?_)
                clear hK K
                try simp only [Act.put, List.setIfInBounds_toArray, List.set_cons_zero, List.set_cons_succ]
                refine wpAnyH_done (by kernel_rfl) ?_ _
                clear hHeld
                go_wp2_with fail
                refine ⟨⟨q + 1, by omega, by go_num, Lib.hid (HN9.out.put (by omega) (fun p _ => by rw [upTo_succ, HRE9.out])), Lib.hid (HR99.out.kept (Below.heap_setCell _ _ _ _ HNE.out.1) (by simp [World.setCell])), Lib.hid (HW9.out.setCell HNE.out.2 _)⟩, by simp [intOf]; omega⟩
            · have g0 : decide (0 < q) = false := decide_eq_false hq0
              have HRV : Hid (F q = false) := Lib.hid (by
                obtain rfl : q = 0 := by omega
                rw [← HFE.out]; rfl)
              clear hq0 cst
              refine region_sth 24 (by kernel_rfl) (by kernel_rfl) ?_
              simp only [List.take_succ_cons, List.take_zero, List.drop_succ_cons, List.drop_zero]
              iterate 5 (refine sth_want (by kernel_rfl) ?_; intro K hK; go_simp; refine hK _ ?_; clear hK K)
              iterate 5 (refine sth_skip (by kernel_rfl) ?_)
              iterate 2 (refine sth_want (by kernel_rfl) ?_; intro K hK; go_simp; refine hK _ ?_; clear hK K)
              iterate 10 (refine sth_skip (by kernel_rfl) ?_)
              iterate 2 (refine sth_want (by kernel_rfl) ?_; intro K hK; go_simp; refine hK _ ?_; clear hK K)
              refine sth_nil ?_
              change wpList _ _ _ _ _ (wr.drewN 1)
              have b9 : (wr.drewN 1).cell? ⟨nb, q, none⟩ = some (.bool (upTo F q q)) := HN.out.cs q (by omega)
              have f9 : (wr.drewN 1).frozen? ⟨nb, q, none⟩ = false := HN.out.fr q
              generalize upTo F q q = oldv at b9
              generalize wr.drewN 1 = wd at *
              go_wp2_with fail
              exact ⟨⟨q + 1, by omega, by go_num, Lib.hid (HPD.out _ HRV.out), Lib.hid (HRDD.out _), Lib.hid (HWD.out _)⟩, by simp [intOf]; omega⟩
        · have hqe : q = M.length + 1 := by omega
          subst hqe
          have HFN : Hid (∀ p, p ≤ M.length → (upTo F (M.length + 1) p = true ↔ rowM (itemsP ps) M (k + 1) p)) := Lib.hid (fun p hp => by rw [upTo_in (by omega)]; exact HRF.out p hp)
          go_wp2_with fail
          exact ⟨⟨nb, k + 1, _, rfl, by go_num, by omega, Lib.hid HNE.out.2, HN, HFN, HW⟩, by simp [intOf]; omega⟩
    · obtain rfl : k = L.length := by omega
      have bq := HBT2.out.cs M.length (by omega)
      have HFE : Hid (f M.length = true ↔ Mt (itemsP ps) M) := Lib.hid (by
        rw [HF.out _ (Nat.le_refl _), ← hpl, ← itemsP_len ps]; exact rowM_end)
      have HBE : Hid (Below w.heap.size w wr) := Lib.hid (HB2.out.trans (HB5.out.mono HB2.out.size))
      clear HF HBT2 HB5
      generalize f M.length = r at *
      go_wp2_with fail
      go_ret
      exact ⟨r, rfl, HFE.out, HBE.out⟩
end Go.Proofs.YthigepjddfdbmaaDoor
