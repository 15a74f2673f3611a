/- The law DagGrows. -/
import Derived.Test.YtfphkbbgbfnhaaaDagCa
import Derived.Test.YtfphkbbgbfnhaaaDagBa
namespace Go.Proofs.Ytfphkbbgbfnhaaa
open Go.RowKit Go.Shelf Go.Maps Go.Lib Go.Sort

/-- Two graphs side by side. -/
structure DSt (w1 w2 : World) (bg bm ch cm : Nat) (g g' : Gr) (vw : Value) (W : World) : Prop where
  a : BSt w1 W bg bm g vw
  b : GSt w2 W ch cm g'
theorem DSt.on {w1 w2 W W' : World} {bg bm ch cm : Nat} {g g' : Gr} {vw : Value} (h : DSt w1 w2 bg bm ch cm g g' vw W) (hb : Below W.heap.size W W') : DSt w1 w2 bg bm ch cm g g' vw W' := ⟨h.a.on hb, h.b.on hb⟩
theorem own_later {w : World} {B : Nat} {v : Value} {l : List Txt} (h : OwnS w B v l) : ∀ W, Below w.heap.size w W → StrsC (fun k => k < W.heap.size) W v l := fun _ hW => (ownS_c h).kept (fun k hk => ⟨Nat.lt_of_lt_of_le hk.2 hW.size, hW.block k hk.2⟩)
theorem strs_three (w : World) (x y z : Txt) : StrsC (fun k => w.heap.size ≤ k ∧ k < w.heap.size + 1) (w.alloc (.cells #[.string ⟨x.toArray⟩, .string ⟨y.toArray⟩, .string ⟨z.toArray⟩] 9)) (.slice (some ⟨w.heap.size, 0, none⟩) 3 3) [x, y, z] :=
  row_cells w #[.string ⟨x.toArray⟩, .string ⟨y.toArray⟩, .string ⟨z.toArray⟩] 9 3 1 rfl (by unfold maxLen; omega) (fun u hu => by simp at hu; rcases hu with rfl | rfl | rfl <;> rfl)
theorem in_alloc {w : World} {o : Obj} : ∀ k, w.heap.size ≤ k ∧ k < w.heap.size + 1 → k < (w.alloc o).heap.size := fun k hk => by simp; exact hk.2
theorem DSt.alloc {w1 w2 W : World} {bg bm ch cm : Nat} {g g' : Gr} {vw : Value} (h : DSt w1 w2 bg bm ch cm g g' vw W) (o : Obj) : DSt w1 w2 bg bm ch cm g g' vw (W.alloc o) := h.on ((Below.refl _ _).alloc (Nat.le_refl _) _)
/-- Two lists made one behind the other. -/
theorem strs_21 (w : World) (a b c : Txt) : StrsC (fun k => k < ((w.alloc (.cells #[.string ⟨a.toArray⟩, .string ⟨b.toArray⟩] 9)).alloc (.cells #[.string ⟨c.toArray⟩] 9)).heap.size) ((w.alloc (.cells #[.string ⟨a.toArray⟩, .string ⟨b.toArray⟩] 9)).alloc (.cells #[.string ⟨c.toArray⟩] 9)) (.slice (some ⟨w.heap.size, 0, none⟩) 2 2) [a, b] ∧
    StrsC (fun k => k < ((w.alloc (.cells #[.string ⟨a.toArray⟩, .string ⟨b.toArray⟩] 9)).alloc (.cells #[.string ⟨c.toArray⟩] 9)).heap.size) ((w.alloc (.cells #[.string ⟨a.toArray⟩, .string ⟨b.toArray⟩] 9)).alloc (.cells #[.string ⟨c.toArray⟩] 9)) (.slice (some ⟨w.heap.size + 1, 0, none⟩) 1 1) [c] := by
  have e : (w.alloc (.cells #[.string ⟨a.toArray⟩, .string ⟨b.toArray⟩] 9)).heap.size = w.heap.size + 1 := by simp
  constructor
  · refine (strs_two w a b).kept (fun k hk => ⟨by simp; omega, Below.heap_alloc _ _ _ (by rw [e]; exact hk.2)⟩)
  · have h := strs_one (w.alloc (.cells #[.string ⟨a.toArray⟩, .string ⟨b.toArray⟩] 9)) c
    rw [e] at h
    exact h.kept (fun k hk => ⟨by simp; omega, rfl⟩)
set_option maxRecDepth 100000 in
set_option maxHeartbeats 16000000 in
theorem dgrows_law (v vp : Value) (nodes : List (Txt × List Txt)) (ps : List Txt) (a b c : Txt) (w : World) (h : NodesC (fun k => k < w.heap.size) w v nodes) (hp : StrsC (fun k => k < w.heap.size) w vp ps) (hs : sumR nodeB nodes ≤ 1048576) (hpl : sumL ps ≤ 1048576) (hl : a.length + b.length + c.length ≤ 1048576) :
    Calls Try.prog 7 #[v, vp, .agg #[.string ⟨a.toArray⟩, .string ⟨b.toArray⟩, .string ⟨c.toArray⟩]] w (TrueP w) := by
  unfold TrueP
  obtain ⟨na, nc, rfl⟩ := RowsC.shape h
  obtain ⟨pa, pc, rfl⟩ := hp.shape
  have hnl := sumR_len nodeB_pos nodes
  obtain ⟨hpl1, hpb⟩ := sum_bounds hpl (by omega)
  have ha : a.length ≤ 4194304 := by omega
  have hb : b.length ≤ 4194304 := by omega
  have hc : c.length ≤ 4194304 := by omega
  have H := Lib.hid (fun (W : World) (hb : Below w.heap.size w W) => RowsC.kept node_keeps h (S' := fun k => k < w.heap.size) (w' := W) (fun k hk => ⟨hk, hb.block k hk⟩))
  have HP := Lib.hid (fun (W : World) (hb : Below w.heap.size w W) => hp.kept (S' := fun k => k < w.heap.size) (w' := W) (fun k hk => ⟨hk, hb.block k hk⟩))
  have HPB := Lib.hid hpb
  have hk := new_five w #[.string ⟨a.toArray⟩, .string ⟨b.toArray⟩, .string ⟨c.toArray⟩] 45
  have BX : Hid (Below w.heap.size w (w.alloc (.cells #[.string ⟨a.toArray⟩, .string ⟨b.toArray⟩, .string ⟨c.toArray⟩] 45))) := Lib.hid ((Below.refl _ w).alloc (Nat.le_refl _) _)
  have hsx : w.heap.size < (w.alloc (.cells #[.string ⟨a.toArray⟩, .string ⟨b.toArray⟩, .string ⟨c.toArray⟩] 45)).heap.size := by simp
  have HK := Lib.hid hk
  clear h hk hl hp hpl hpb
  go_enter Try.func7, Try.ntmps7
  go_wp2_with fail
  generalize w.alloc (.cells #[.string ⟨a.toArray⟩, .string ⟨b.toArray⟩, .string ⟨c.toArray⟩] 45) = wx at *
  have HQ : Hid (∀ W, Below wx.heap.size wx W → W.cell? ⟨w.heap.size, 0, none⟩ = some (.string ⟨a.toArray⟩) ∧ W.cell? ⟨w.heap.size, 1, none⟩ = some (.string ⟨b.toArray⟩) ∧ W.cell? ⟨w.heap.size, 2, none⟩ = some (.string ⟨c.toArray⟩)) := Lib.hid (fun W hW => by
    have hk1 := (hW.block w.heap.size hsx).trans HK.out
    exact ⟨by rw [cell_of_row _ _ _ _ _ _ hk1]; rfl, by rw [cell_of_row _ _ _ _ _ _ hk1]; rfl, by rw [cell_of_row _ _ _ _ _ _ hk1]; rfl⟩)
  clear HK hsx
  have hsX := BX.out.size
  refine (awake_any wx).mono ?_
  rintro e w1 ⟨rfl, b1⟩
  have BX1 := Lib.hid b1
  have B1 : Hid (Below w.heap.size w w1) := Lib.hid (BX.out.trans (b1.mono BX.out.size))
  have hs1 := B1.out.size
  have hsx1 := b1.size
  clear b1 BX
  by_cases h50 : 50 < nodes.length
  · go_wp2_with fail
    go_ret
    exact ⟨rfl, B1.out⟩
  by_cases h20 : 20 < ps.length
  · go_wp2_with fail
    go_ret
    exact ⟨rfl, B1.out⟩
  have HB := Lib.hid (fun W (hW : Below w.heap.size w W) => built_law (fun k => k < w.heap.size) _ nodes W (fun k hk => Nat.lt_of_lt_of_le hk hW.size) (H.out W hW) (by omega) hs)
  go_wp2_with fail
  refine (HB.out w1 B1.out).mono ?_
  rintro e w2 ⟨bg, bm, vw, rfl, g2⟩
  have G2 := Lib.hid g2
  have hs12 := g2.size
  have BE : Hid (∀ W, BSt w1 W bg bm (buildN nodes) vw → Below w.heap.size w W) := Lib.hid (fun W hW => B1.out.trans (hW.below.mono B1.out.size))
  have BXE : Hid (∀ W, BSt w1 W bg bm (buildN nodes) vw → Below wx.heap.size wx W) := Lib.hid (fun W hW => BX1.out.trans (hW.below.mono BX1.out.size))
  clear g2 H
  go_wp2_with fail
  refine (HB.out w2 (BE.out _ G2.out)).mono ?_
  rintro e w3 ⟨ch, cm, vw2, rfl, g3⟩
  have G3 : Hid (DSt w1 w2 bg bm ch cm (buildN nodes) (buildN nodes) vw w3) := Lib.hid ⟨G2.out.on g3.below, g3.gst⟩
  have HG := Lib.hid g3.good
  have HGL : Hid ((buildN nodes).length ≤ 50) := Lib.hid (by have := buildN_len nodes; omega)
  have HNL := Lib.hid (name_len g3)
  clear g3 HB
  generalize buildN nodes = g at *
  have HAD := Lib.hid (fun (g' : Gr) (c : Int) (hs : addG g [97, 32, 110, 101, 119, 32, 111, 110, 101] ps = g' ∧ codeG g [97, 32, 110, 101, 119, 32, 111, 110, 101] ps = c) =>
    add4 (fun k => k < w.heap.size) (.slice pa ps.length pc) [97, 32, 110, 101, 119, 32, 111, 110, 101] ps w2 w3 ch cm g g' c G3.out.b hs (fun k hk => Nat.lt_of_lt_of_le hk (BE.out _ G3.out.a).size) (HP.out w3 (BE.out _ G3.out.a)) (by simp) (by omega) HPB.out (by have := HGL.out; omega))
  by_cases hin : [97, 32, 110, 101, 119, 32, 111, 110, 101] ∈ names g
  · have HA := Lib.hid (HAD.out g 5 ⟨by unfold addG; rw [if_pos (Or.inl hin)], by unfold codeG; rw [if_pos hin]⟩)
    obtain ⟨n, hn⟩ := findN_in (rg := refOf g) (x := [97, 32, 110, 101, 119, 32, 111, 110, 101]) (by rw [refOf_names]; exact hin)
    have HN := Lib.hid hn
    have hge : decide ((0 : Int) ≤ (n : Int)) = true := by simp
    clear hin HAD hn
    go_wp2_with fail
    refine HA.out.mono ?_
    rintro e w4 ⟨rfl, g4⟩
    have G4 : Hid (BSt w1 w4 bg bm g vw) := Lib.hid (G2.out.on g4.below)
    clear g4
    go_wp2_with fail
    refine (G4.out.find HN.out).mono ?_
    rintro e w5 ⟨rfl, rfl⟩
    go_wp2_with fail
    go_ret
    exact ⟨rfl, BE.out _ G4.out⟩
  by_cases hall : ∀ y ∈ ps, y ∈ names g
  · obtain ⟨s1, s2, s3⟩ := add_shape HG.out hin hall
    have HA := Lib.hid (HAD.out _ 0 ⟨s1, by unfold codeG; rw [if_neg hin, if_pos hall]⟩)
    have HS2 := Lib.hid s2
    have HS3 := Lib.hid s3
    have HIN := Lib.hid hin
    generalize (ascN ps).map (idxN g) = r at *
    clear hin hall HAD s1 s2 s3
    have HGG := Lib.hid (ext_good HG.out HIN.out HS2.out)
    go_wp2_with fail
    refine HA.out.mono ?_
    rintro e w4 ⟨rfl, g4⟩
    have G4 : Hid (DSt w1 w2 bg bm ch cm g (g ++ [⟨[97, 32, 110, 101, 119, 32, 111, 110, 101], r⟩]) vw w4) := Lib.hid ⟨G2.out.on g4.below, g4⟩
    clear g4 HA G2 G3
    have HGN : Hid (∀ q ∈ ps, comesB (g ++ [⟨[97, 32, 110, 101, 119, 32, 111, 110, 101], r⟩]) [97, 32, 110, 101, 119, 32, 111, 110, 101] q = true ∧ comesB (g ++ [⟨[97, 32, 110, 101, 119, 32, 111, 110, 101], r⟩]) q [97, 32, 110, 101, 119, 32, 111, 110, 101] = false) := Lib.hid (fun q hq => ext_new HG.out HIN.out HS2.out (HS3.out q hq).1 (HS3.out q hq).2)
    have HEC := Lib.hid (fun y z hy hz => ext_comes (y := y) (z := z) HG.out HIN.out HS2.out hy hz)
    have HEB := Lib.hid (fun y z hy hz R R' h h' => ext_bases (y := y) (z := z) (R := R) (R' := R') HG.out HIN.out HS2.out hy hz h h')
    have HET := Lib.hid (fun l hl R R' h h' => ext_tips (l := l) (R := R) (R' := R') HG.out HIN.out HS2.out hl h h')
    have HEM := Lib.hid (fun l m hl hm => ext_miss (l := l) (m := m) HG.out HIN.out HS2.out hl hm)
    clear HS2 HS3 HG
    generalize g ++ [(⟨[97, 32, 110, 101, 119, 32, 111, 110, 101], r⟩ : Nd)] = g' at *
    go_wp2_with fail
    go_loopw [60] (fun i wr => ∃ k : Nat, k ≤ ps.length ∧ i = .int .i64 k ∧ Hid (DSt w1 w2 bg bm ch cm g g' vw wr)) (fun i _ => ps.length - (intOf i).toNat)
    case atStart => exact ⟨0, Nat.zero_le _, rfl, G4⟩
    case round =>
      obtain ⟨k, hk, rfl, hS⟩ := hrel
      by_cases hlt : k < ps.length
      · obtain ⟨rg, ro, rfl, _, _, _, hc1⟩ := (HP.out wr (BE.out _ hS.out.a)).at (by omega)
        have c1 := hc1 k hlt
        have hq : ps.getD k [] ∈ ps := by rw [getD_at hlt]; exact List.getElem_mem hlt
        have hql := HPB.out _ hq
        have HQ1 := Lib.hid (HGN.out _ hq)
        clear hc1 hq
        generalize ps.getD k [] = q at *
        go_wp2_with fail
        refine (hS.out.b.comes (x := [97, 32, 110, 101, 119, 32, 111, 110, 101]) (by simp) hql).mono ?_
        rw [HQ1.out.1]
        rintro e w5 ⟨rfl, b5⟩
        have G5 := Lib.hid (hS.out.on b5)
        clear b5 c1
        go_wp2_with fail
        refine (G5.out.b.comes (y := [97, 32, 110, 101, 119, 32, 111, 110, 101]) hql (by simp)).mono ?_
        rw [HQ1.out.2]
        rintro e w6 ⟨rfl, b6⟩
        have G6 := Lib.hid (G5.out.on b6)
        clear b6 G5
        go_wp2_with fail
        refine (G6.out.b.bases (x := [97, 32, 110, 101, 119, 32, 111, 110, 101]) (by simp) hql).mono ?_
        rintro e w7 ⟨v7, R7, rfl, o7, t7, _, b7⟩
        obtain rfl := bases_of HGG.out t7 HQ1.out.1
        have G7 := Lib.hid (G6.out.on b7)
        have O7 := Lib.hid (own_later o7 _ ((Below.refl _ w7).alloc (o := .cells #[.string ⟨q.toArray⟩] 9) (Nat.le_refl _)))
        obtain ⟨a7, c7, rfl⟩ := ownS_slice o7
        clear o7 t7 b7 G6
        have hst := Lib.hid (strs_one w7 q)
        go_wp2_with fail
        refine (same_b _ _ _ _ [q] [q] _ O7.out hst.out (by simp) (by simp) (r := true) (by simp)).mono ?_
        rintro e w8 ⟨rfl, n8, hn8⟩
        have G8 : Hid (DSt w1 w2 bg bm ch cm g g' vw w8) := Lib.hid (by rw [hn8]; exact (G7.out.alloc _).on (drewn _ _ n8))
        clear hn8 hst O7 G7
        go_wp2_with fail
        go_roundw
        case rel => exact ⟨k + 1, by omega, by go_num, G8⟩
        case measure => simp [intOf]; omega
      · obtain ⟨q0, q1, q2⟩ := HQ.out wr (BXE.out _ hS.out.a)
        go_upto_region 17 with fail
        go_quiet (fail)
        have G5 : Hid (DSt w1 w2 bg bm ch cm g g' vw (wr.drewN nq)) := Lib.hid (hS.out.on (drewn _ wr nq))
        clear q0 q1 q2 hS
        generalize wr.drewN nq = w5 at *
        by_cases ea : a = [97, 32, 110, 101, 119, 32, 111, 110, 101]
        · have ga : (a == [97, 32, 110, 101, 119, 32, 111, 110, 101]) = true := by rw [ea]; simp
          clear ea
          go_wp2_with fail
          go_ret
          exact ⟨rfl, BE.out _ G5.out.a⟩
        have ga : (a == [97, 32, 110, 101, 119, 32, 111, 110, 101]) = false := by simpa using ea
        have HEA := Lib.hid ea
        clear ea
        by_cases eb : b = [97, 32, 110, 101, 119, 32, 111, 110, 101]
        · have gb : (b == [97, 32, 110, 101, 119, 32, 111, 110, 101]) = true := by rw [eb]; simp
          clear eb
          go_wp2_with fail
          go_ret
          exact ⟨rfl, BE.out _ G5.out.a⟩
        have gb : (b == [97, 32, 110, 101, 119, 32, 111, 110, 101]) = false := by simpa using eb
        have HEBB := Lib.hid eb
        clear eb
        by_cases ec : c = [97, 32, 110, 101, 119, 32, 111, 110, 101]
        · have gc : (c == [97, 32, 110, 101, 119, 32, 111, 110, 101]) = true := by rw [ec]; simp
          clear ec
          go_wp2_with fail
          go_ret
          exact ⟨rfl, BE.out _ G5.out.a⟩
        have gc : (c == [97, 32, 110, 101, 119, 32, 111, 110, 101]) = false := by simpa using ec
        have HECC := Lib.hid ec
        clear ec
        obtain ⟨rab, hrab⟩ : ∃ r, comesB g a b = r := ⟨_, rfl⟩
        have HAB := Lib.hid hrab
        have HAB' : Hid (comesB g' a b = rab) := Lib.hid (by rw [← hrab]; exact HEC.out a b HEA.out HEBB.out)
        have HMT : Hid (missN g' [a, b] [c] = missN g [a, b] [c]) := Lib.hid (HEM.out [a, b] [c] (by
          simp only [List.mem_cons, List.not_mem_nil, or_false, not_or]; exact ⟨fun e => HEA.out e.symm, fun e => HEBB.out e.symm⟩) (by simp only [List.mem_cons, List.not_mem_nil, or_false]; exact fun e => HECC.out e.symm))
        have HTT : Hid ([97, 32, 110, 101, 119, 32, 111, 110, 101] ∉ [a, b, c]) := Lib.hid (by
          simp only [List.mem_cons, List.not_mem_nil, or_false, not_or]; exact ⟨fun e => HEA.out e.symm, fun e => HEBB.out e.symm, fun e => HECC.out e.symm⟩)
        clear hrab
        go_wp2_with fail
        refine (G5.out.a.gst.bases ha hb).mono ?_
        rintro e w6 ⟨v6, R, rfl, o6, t6, l6, b6⟩
        have G6 := Lib.hid (G5.out.on b6)
        have O6 := Lib.hid (own_later o6)
        have T6 := Lib.hid t6
        have hR : R.length ≤ 50 := by have := HGL.out; omega
        obtain ⟨a6, c6, rfl⟩ := ownS_slice o6
        clear o6 t6 l6 b6 G5
        go_wp2_with fail
        refine (G6.out.b.bases ha hb).mono ?_
        rintro e w7 ⟨v7, R7, rfl, o7, t7, l7, b7⟩
        have e7 := HEB.out a b HEA.out HEBB.out R R7 T6.out t7
        subst e7
        have G7 := Lib.hid (G6.out.on b7)
        have H6 := Lib.hid (O6.out w7 b7)
        have H7 := Lib.hid (own_later o7 w7 (Below.refl _ _))
        obtain ⟨a7, c7, rfl⟩ := ownS_slice o7
        clear o7 t7 l7 b7 G6 O6 T6
        go_wp2_with fail
        refine (same_b _ _ _ _ _ _ w7 H6.out H7.out (by omega) (by omega) (r := true) (by simp)).mono ?_
        rintro e w8 ⟨rfl, n8, hn8⟩
        have G8 : Hid (DSt w1 w2 bg bm ch cm g g' vw w8) := Lib.hid (by rw [hn8]; exact G7.out.on (drewn _ w7 n8))
        clear hn8 G7 H6 H7
        go_wp2_with fail
        refine (G8.out.a.comes ha hb HAB.out).mono ?_
        rintro e w9 ⟨rfl, _, b9⟩
        have G9 := Lib.hid (G8.out.on b9)
        clear b9 G8
        go_wp2_with fail
        refine (G9.out.b.comes ha hb).mono ?_
        rw [HAB'.out]
        rintro e w10 ⟨rfl, b10⟩
        have G10 := Lib.hid (G9.out.on b10)
        clear b10 G9
        have gab : (rab == rab) = true := by simp
        go_wp2_with fail
        have hst := Lib.hid (strs_three w10 a b c)
        refine ((G10.out.alloc _).a.gst.tips in_alloc hst.out (by simp) (fun x hx => by simp at hx; rcases hx with rfl | rfl | rfl <;> assumption)).mono ?_
        rintro e w11 ⟨v11, R, rfl, o11, t11, l11, b11⟩
        have G11 := Lib.hid ((G10.out.alloc _).on b11)
        have O11 := Lib.hid (own_later o11)
        have T11 := Lib.hid t11
        have hR2 : R.length ≤ 50 := by have := HGL.out; omega
        obtain ⟨a11, c11, rfl⟩ := ownS_slice o11
        clear o11 t11 l11 b11 G10 hst gab
        go_wp2_with fail
        have hst := Lib.hid (strs_three w11 a b c)
        refine ((G11.out.alloc _).b.tips in_alloc hst.out (by simp) (fun x hx => by simp at hx; rcases hx with rfl | rfl | rfl <;> assumption)).mono ?_
        rintro e w12 ⟨v12, R12, rfl, o12, t12, l12, b12⟩
        have e12 := HET.out _ HTT.out R R12 T11.out t12
        subst e12
        have G12 := Lib.hid ((G11.out.alloc _).on b12)
        have H11 := Lib.hid (O11.out w12 (((Below.refl _ w11).alloc (Nat.le_refl _) _).trans (b12.mono (by simp))))
        have H12 := Lib.hid (own_later o12 w12 (Below.refl _ _))
        obtain ⟨a12, c12, rfl⟩ := ownS_slice o12
        clear o12 t12 l12 b12 G11 O11 T11 hst
        go_wp2_with fail
        refine (same_b _ _ _ _ _ _ w12 H11.out H12.out (by omega) (by omega) (r := true) (by simp)).mono ?_
        rintro e w13 ⟨rfl, n13, hn13⟩
        have G13 : Hid (DSt w1 w2 bg bm ch cm g g' vw w13) := Lib.hid (by rw [hn13]; exact G12.out.on (drewn _ w12 n13))
        clear hn13 G12 H11 H12
        obtain ⟨M, hM⟩ : ∃ M, missN g [a, b] [c] = M := ⟨_, rfl⟩
        have hML : M.length ≤ 50 := by
          rw [← hM]
          unfold missN
          rw [List.length_map]
          have h1 := List.length_filter_le (fun i => reachB g (begF g [a, b]) i && !reachB g (begF g [c]) i) (List.range g.length)
          have h2 := HGL.out
          rw [List.length_range] at h1
          omega
        have HM1 := Lib.hid hM
        have HM2 : Hid (missN g' [a, b] [c] = M) := Lib.hid (by rw [HMT.out, hM])
        clear hM HMT
        go_wp2_with fail
        have hst := Lib.hid (strs_21 w13 a b c)
        refine (((G13.out.alloc _).alloc _).a.gst.missing (fun _ hk => hk) hst.out.1 (by simp) (fun x hx => by simp at hx; rcases hx with rfl | rfl <;> assumption) (fun _ hk => hk) hst.out.2 (by simp) (fun x hx => by simp at hx; rw [hx]; assumption)).mono ?_
        rw [HM1.out]
        rintro e w14 ⟨v14, rfl, o14, b14⟩
        have G14 := Lib.hid (((G13.out.alloc _).alloc _).on b14)
        have O14 := Lib.hid (own_later o14)
        obtain ⟨a14, c14, rfl⟩ := ownS_slice o14
        clear o14 b14 G13 hst
        go_wp2_with fail
        have hst := Lib.hid (strs_21 w14 a b c)
        refine (((G14.out.alloc _).alloc _).b.missing (fun _ hk => hk) hst.out.1 (by simp) (fun x hx => by simp at hx; rcases hx with rfl | rfl <;> assumption) (fun _ hk => hk) hst.out.2 (by simp) (fun x hx => by simp at hx; rw [hx]; assumption)).mono ?_
        rw [HM2.out]
        rintro e w15 ⟨v15, rfl, o15, b15⟩
        have G15 := Lib.hid (((G14.out.alloc _).alloc _).on b15)
        have H14 := Lib.hid (O14.out w15 ((((Below.refl _ w14).alloc (Nat.le_refl _) _).alloc (by simp) _).trans (b15.mono (by simp; omega))))
        have H15 := Lib.hid (own_later o15 w15 (Below.refl _ _))
        obtain ⟨a15, c15, rfl⟩ := ownS_slice o15
        clear o15 b15 G14 O14 hst
        go_wp2_with fail
        refine (same_b _ _ _ _ M M w15 H14.out H15.out (by omega) (by omega) (r := true) (by simp)).mono ?_
        rintro e w16 ⟨rfl, n16, hn16⟩
        have G16 : Hid (DSt w1 w2 bg bm ch cm g g' vw w16) := Lib.hid (by rw [hn16]; exact G15.out.on (drewn _ w15 n16))
        clear hn16 G15 H14 H15
        go_wp2_with fail
        go_ret
        exact ⟨rfl, BE.out _ G16.out.a⟩
  · have hex : ∃ y ∈ ps, y ∉ names g := by
      rcases Classical.em (∃ y ∈ ps, y ∉ names g) with h | h
      · exact h
      · exact absurd (fun y hy => Classical.byContradiction fun hn => h ⟨y, hy, hn⟩) hall
    have hpl : 0 < ps.length := by
      obtain ⟨y, hy, _⟩ := hex
      exact List.length_pos_of_mem hy
    have HA := Lib.hid (HAD.out g 4 ⟨by unfold addG; rw [if_pos (Or.inr hall)], by unfold codeG; rw [if_neg hin, if_neg hall]⟩)
    have HN := Lib.hid (findN_out (rg := refOf g) (x := [97, 32, 110, 101, 119, 32, 111, 110, 101]) (by rw [refOf_names]; exact hin))
    clear hin hall HAD hex
    go_wp2_with fail
    refine HA.out.mono ?_
    rintro e w4 ⟨rfl, g4⟩
    have G4 : Hid (BSt w1 w4 bg bm g vw) := Lib.hid (G2.out.on g4.below)
    clear g4
    go_wp2_with fail
    refine (G4.out.find HN.out).mono ?_
    rintro e w5 ⟨rfl, rfl⟩
    go_wp2_with fail
    go_ret
    exact ⟨rfl, BE.out _ G4.out⟩
end Go.Proofs.Ytfphkbbgbfnhaaa
