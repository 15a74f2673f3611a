/- The law DagBases. -/
import Derived.Test.YtfphkbbgbfnhaaaDagZ
namespace Go.Proofs.Ytfphkbbgbfnhaaa
open Go.RowKit Go.Shelf Go.Maps Go.Lib Go.Sort

theorem comm_symm {g : Gr} {x y : Txt} {i : Nat} : Comm g x y i ↔ Comm g y x i := ⟨fun h => ⟨h.2.1, h.1, h.2.2.2, h.2.2.1⟩, fun h => ⟨h.2.1, h.1, h.2.2.2, h.2.2.1⟩⟩
theorem bases_swap {g : Gr} (hg : Good g) {a b : Txt} {R R' : List Txt} (h : IsTips g (begF g (bothN g a b)) R) (h' : IsTips g (begF g (bothN g b a)) R') : R' = R := by
  refine asc_eq h'.1 h.1 (fun z => ?_)
  rw [bases_mem hg h, bases_mem hg h']
  constructor
  · rintro ⟨i, h1, h2, h3, h4⟩; exact ⟨i, h1, h2, comm_symm.1 h3, fun j hj hr => h4 j (comm_symm.1 hj) hr⟩
  · rintro ⟨i, h1, h2, h3, h4⟩; exact ⟨i, h1, h2, comm_symm.1 h3, fun j hj hr => h4 j (comm_symm.1 hj) hr⟩
theorem bases_of {g : Gr} (hg : Good g) {a b : Txt} {R : List Txt} (h : IsTips g (begF g (bothN g a b)) R) (hc : comesB g a b = true) : R = [b] := by
  rw [comes_iff hg] at hc
  obtain ⟨h1, h2, h3⟩ := hc
  have hC : Comm g a b (idxN g b) := ⟨h1, h2, h3, .refl _⟩
  refine asc_eq h.1 (List.pairwise_singleton _ _) (fun z => ?_)
  rw [bases_mem hg h, List.mem_singleton]
  constructor
  · rintro ⟨i, k1, rfl, k3, k4⟩
    have := k4 _ hC k3.2.2.2
    rw [← this, nm_idx h2]
  · rintro rfl
    refine ⟨_, h2, nm_idx h2, hC, fun j hj hr => ?_⟩
    exact hr.anti hg hj.2.2.2
theorem bases_both {g : Gr} (hg : Good g) {a b x : Txt} {R : List Txt} (h : IsTips g (begF g (bothN g a b)) R) (hx : x ∈ R) : comesB g a x = true ∧ comesB g b x = true := by
  obtain ⟨i, h1, rfl, h3, _⟩ := (bases_mem hg h).1 hx
  rw [comes_iff hg, comes_iff hg, idx_nm hg h1]
  exact ⟨⟨h3.1, h1, h3.2.2.1⟩, ⟨h3.2.1, h1, h3.2.2.2⟩⟩
theorem bases_above {g : Gr} (hg : Good g) {a b n : Txt} {R : List Txt} (h : IsTips g (begF g (bothN g a b)) R) (h1 : comesB g a n = true) (h2 : comesB g b n = true) : ∃ x ∈ R, comesB g x n = true := by
  have hn := (comes_in hg h1).2
  refine tips_above hg h ?_ hn
  rw [comes_iff hg] at h1 h2
  have hC : Comm g a b (idxN g n) := ⟨h1.1, h2.1, h1.2.2, h2.2.2⟩
  have := (beg_iff.1 ((both_iff hg h1.2.1).2 hC)).2
  rwa [nm_idx h1.2.1] at this
theorem refOf_at {g : Gr} {k : Nat} (h : k < g.length) : ((refOf g).getD k ([], [])).1 ∈ names g := by
  have h' : k < (refOf g).length := by rw [refOf_len]; exact h
  rw [← refOf_names, List.mem_map]
  exact ⟨(refOf g).getD k ([], []), by rw [getD_at h']; exact List.getElem_mem h', rfl⟩
theorem name_len {w W : World} {bg bm : Nat} {g : Gr} {vw : Value} (h : BSt w W bg bm g vw) : ∀ n ∈ names g, n.length ≤ 4194304 := by
  obtain ⟨S, va, D, mb, h1, _⟩ := h.ex
  intro n hn
  have h2 := in_names.1 hn
  have := h1.txt (idxN g n)
  rwa [nm_idx h2] at this
theorem LSt.bases {w2 w4 W : World} {bg bm : Nat} {g : Gr} {vw : Value} (h : LSt w2 bg bm g vw w4 W) {x y : Txt} (hx : x.length ≤ 4194304) (hy : y.length ≤ 4194304) :
    Calls Try.prog 18 #[.pointer (some ⟨bg, 0, none⟩), .string ⟨x.toArray⟩, .string ⟨y.toArray⟩] W fun e w' => ∃ v' R, e = .returned v' ∧ OwnS w' W.heap.size v' R ∧ IsTips g (begF g (bothN g x y)) R ∧ R.length ≤ g.length ∧ LSt w2 bg bm g vw w4 w' ∧ Below W.heap.size W w' :=
  (h.1.gst.bases hx hy).mono fun _ _ ⟨v', R, h1, h2, h3, h4, h5⟩ => ⟨v', R, h1, h2, h3, h4, ⟨h.1.on h5, h.2.trans (h5.mono h.2.size)⟩, h5⟩
theorem LSt.on {w2 w4 W W' : World} {bg bm : Nat} {g : Gr} {vw : Value} (h : LSt w2 bg bm g vw w4 W) (hb : Below W.heap.size W W') : LSt w2 bg bm g vw w4 W' := ⟨h.1.on hb, h.2.trans (hb.mono h.2.size)⟩
theorem same_b (S T : Nat → Prop) (va vb : Value) (a b : List Txt) (w : World) (ha : StrsC S w va a) (hb : StrsC T w vb b) (hal : a.length ≤ 4194304) (hbl : b.length ≤ 4194304) {r : Bool} (hr : decide (a = b) = r) :
    Calls Try.prog 12 #[va, vb] w fun e w' => e = .returned (.bool r) ∧ ∃ n, w' = w.drewN n := by
  subst hr
  exact same_any S T va vb a b w ha hb hal hbl
set_option maxRecDepth 100000 in
set_option maxHeartbeats 16000000 in
theorem dbases_law (v : Value) (nodes : List (Txt × List Txt)) (a b : Txt) (w : World) (h : NodesC (fun k => k < w.heap.size) w v nodes) (hs : sumR nodeB nodes ≤ 1048576) (ha : a.length ≤ 4194304) (hb : b.length ≤ 4194304) :
    Calls Try.prog 5 #[v, .string ⟨a.toArray⟩, .string ⟨b.toArray⟩] w (TrueP w) := by
  unfold TrueP
  obtain ⟨na, nc, rfl⟩ := RowsC.shape h
  have hnl := sumR_len nodeB_pos nodes
  have H := Lib.hid (fun (W : World) (hb : Below w.heap.size w W) => RowsC.kept node_keeps h (S' := fun k => k < w.heap.size) (w' := W) (fun k hk => ⟨hk, hb.block k hk⟩))
  clear h
  go_enter Try.func5, Try.ntmps5
  go_wp2_with fail
  refine (awake_any w).mono ?_
  rintro e w1 ⟨rfl, b1⟩
  have B1 := Lib.hid b1
  clear b1
  by_cases h60 : 60 < nodes.length
  · go_wp2_with fail
    go_ret
    exact ⟨rfl, B1.out⟩
  have HB := Lib.hid (built_law (fun k => k < w.heap.size) _ nodes w1 (fun k hk => Nat.lt_of_lt_of_le hk B1.out.size) (H.out w1 B1.out) (by omega) hs)
  go_wp2_with fail
  refine HB.out.mono ?_
  rintro e w2 ⟨bg, bm, vw, rfl, g2⟩
  have G2 := Lib.hid g2
  have BE : Hid (∀ W, BSt w1 W bg bm (buildN nodes) vw → Below w.heap.size w W) := Lib.hid (fun W hW => B1.out.trans (hW.below.mono B1.out.size))
  have HG := Lib.hid g2.good
  have HNL := Lib.hid (name_len g2)
  have hs12 := g2.size
  have hs01 := B1.out.size
  have HGL : Hid ((buildN nodes).length ≤ 60) := Lib.hid (by have := buildN_len nodes; omega)
  clear g2 HB H
  generalize buildN nodes = g at *
  go_wp2_with fail
  refine (G2.out.gst.bases ha hb).mono ?_
  rintro e w3 ⟨v3, R, rfl, o3, t3, l3, b3⟩
  have G3 : Hid (LSt w1 bg bm g vw w3 w3) := Lib.hid ⟨G2.out.on b3, Below.refl _ _⟩
  have O3 := Lib.hid (ownS_c o3)
  obtain ⟨ra, rc, rfl⟩ := ownS_slice o3
  have HT := Lib.hid t3
  have hR : R.length ≤ 60 := by have := HGL.out; omega
  have HRB : Hid (∀ k, k < R.length → (R.getD k []).length ≤ 4194304 ∧ R.getD k [] ∈ R) := Lib.hid (fun k hk => by
    have h1 : R.getD k [] ∈ R := by rw [getD_at hk]; exact List.getElem_mem hk
    exact ⟨HNL.out _ (tips_in HG.out HT.out h1).1, h1⟩)
  have HR : Hid (∀ W, Below w3.heap.size w3 W → StrsC (fun k => k < W.heap.size) W (.slice ra R.length rc) R) := Lib.hid (fun W hW => O3.out.kept (fun k hk => ⟨Nat.lt_of_lt_of_le hk.2 hW.size, hW.block k hk.2⟩))
  clear o3 t3 b3 l3 O3 G2
  go_wp2_with fail
  refine (G3.out.bases hb ha).mono ?_
  rintro e w4 ⟨v4, R4, rfl, o4, t4, _, g4, b4⟩
  have e4 := bases_swap HG.out HT.out t4
  subst e4
  have G4 := Lib.hid g4
  have O4 := Lib.hid (ownS_c o4)
  have H4 := Lib.hid (HR.out w4 g4.2)
  obtain ⟨a4, c4, rfl⟩ := ownS_slice o4
  clear o4 t4 g4 b4
  go_wp2_with fail
  refine (same_b _ _ _ _ R4 R4 w4 H4.out O4.out (by omega) (by omega) (r := true) (by simp)).mono ?_
  rintro e w5 ⟨rfl, n5, hn5⟩
  have G5 : Hid (LSt w1 bg bm g vw w3 w5) := Lib.hid (by rw [hn5]; exact G4.out.on (drewn _ w4 n5))
  clear hn5 G4 O4 H4
  obtain ⟨rab, hrab⟩ : ∃ r, comesB g a b = r := ⟨_, rfl⟩
  have HAB := Lib.hid hrab
  have HOF := Lib.hid (fun h => bases_of HG.out HT.out (hrab.trans h))
  clear hrab
  go_wp2_with fail
  refine (G5.out.comes ha hb HAB.out).mono ?_
  rintro e w6 ⟨rfl, g6⟩
  have G6 := Lib.hid g6
  clear g6 G5
  cases rab
  · clear HOF
    go_wp2_with fail
    go_loopw [59] (fun i wr => ∃ k : Nat, k ≤ R4.length ∧ i = .int .i64 k ∧ Hid (LSt w1 bg bm g vw w3 wr)) (fun i _ => R4.length - (intOf i).toNat)
    case atStart => exact ⟨0, Nat.zero_le _, rfl, G6⟩
    case round =>
      obtain ⟨k, hk, rfl, hS⟩ := hrel
      by_cases hlt : k < R4.length
      · obtain ⟨rg, ro, rfl, _, _, _, hc⟩ := (HR.out wr hS.out.2).at (by omega)
        have c1 := hc k hlt
        obtain ⟨hx1, hx2⟩ := HRB.out k hlt
        have HX := Lib.hid (bases_both HG.out HT.out hx2)
        have HX1 : Hid (∀ j, j < R4.length → R4.getD j [] ≠ R4.getD k [] → comesB g (R4.getD k []) (R4.getD j []) = false) := Lib.hid (fun j hj hne => by
          rw [← Bool.not_eq_true]
          intro hc
          exact hne (tips_anti HG.out HT.out hx2 (HRB.out j hj).2 hc).symm)
        have HRC : Hid (∀ W, Below w3.heap.size w3 W → ∀ j, j < R4.length → W.cell? ⟨rg, ro + j, none⟩ = some (.string ⟨(R4.getD j []).toArray⟩)) := Lib.hid (fun W hW j hj => by
          obtain ⟨g', o', e', _, _, _, h'⟩ := (HR.out W hW).at (by omega)
          cases e'
          exact h' j hj)
        clear hc hx2
        generalize R4.getD k [] = x at *
        go_wp2_with fail
        refine (hS.out.comes ha hx1 HX.out.1).mono ?_
        rintro e w8 ⟨rfl, g8⟩
        have G8 := Lib.hid g8
        clear g8 c1
        go_wp2_with fail
        refine (G8.out.comes hb hx1 HX.out.2).mono ?_
        rintro e w9 ⟨rfl, g9⟩
        have G9 := Lib.hid g9
        clear g9 G8
        go_wp2_with fail
        go_loopw [77] (fun i wr => ∃ j : Nat, j ≤ R4.length ∧ i = .int .i64 j ∧ Hid (LSt w1 bg bm g vw w3 wr)) (fun i _ => R4.length - (intOf i).toNat)
        case atStart => exact ⟨0, Nat.zero_le _, rfl, G9⟩
        case round =>
          obtain ⟨j, hj, rfl, hS2⟩ := hrel
          by_cases hjl : j < R4.length
          · have c2 := HRC.out wr hS2.out.2 j hjl
            obtain ⟨hy1, _⟩ := HRB.out j hjl
            have HXJ := Lib.hid (HX1.out j hjl)
            generalize R4.getD j [] = y at *
            by_cases hxy : y = x
            · have gx : (x == y) = true := by rw [hxy]; simp
              clear hxy
              go_wp2_with fail
              go_roundw
              case rel => exact ⟨j + 1, by omega, by go_num, hS2⟩
              case measure => simp [intOf]; omega
            · have gx : (x == y) = false := by simpa using fun e => hxy e.symm
              have HF := Lib.hid (HXJ.out hxy)
              clear hxy
              go_wp2_with fail
              refine (hS2.out.comes hx1 hy1 HF.out).mono ?_
              rintro e w5 ⟨rfl, g5⟩
              have G5 := Lib.hid g5
              clear g5
              go_wp2_with fail
              go_roundw
              case rel => exact ⟨j + 1, by omega, by go_num, G5⟩
              case measure => simp [intOf]; omega
          · go_wp2_with fail
            go_roundw
            case rel => exact ⟨k + 1, by omega, by go_num, hS2⟩
            case measure => simp [intOf]; omega
      · obtain ⟨va, vc, rfl⟩ := RowsC.shape hS.out.1.nodes
        have HGR := Lib.hid (refOf_len g)
        have hgl : (refOf g).length ≤ 60 := by rw [HGR.out]; exact HGL.out
        go_wp2_with fail
        go_loopw [94] (fun i wr => ∃ j : Nat, j ≤ (refOf g).length ∧ i = .int .i64 j ∧ Hid (LSt w1 bg bm g (.slice va (refOf g).length vc) w3 wr)) (fun i _ => (refOf g).length - (intOf i).toNat)
        case atStart => exact ⟨0, Nat.zero_le _, rfl, hS⟩
        case round =>
          obtain ⟨j, hj, rfl, hS2⟩ := hrel
          by_cases hjl : j < (refOf g).length
          · obtain ⟨gg, go, rfl, hgS, _, _, hc⟩ := NodesC.at hS2.out.1.nodes (by omega)
            obtain ⟨v3, c1, c2, hv3⟩ := hc j hjl
            have hxn := refOf_at (g := g) (k := j) (by rw [← HGR.out]; exact hjl)
            have hxl := HNL.out _ hxn
            obtain ⟨la, lc, rfl⟩ := hv3.shape
            clear hc hv3 hxn
            generalize ((refOf g).getD j ([], [])).1 = x at *
            generalize ((refOf g).getD j ([], [])).2 = pl at *
            have HABV : Hid (comesB g a x = true → comesB g b x = true → R4.any (fun y => comesB g y x) = true) := Lib.hid (fun h1 h2 => by
              obtain ⟨y, hy1, hy2⟩ := bases_above HG.out HT.out h1 h2
              exact List.any_eq_true.2 ⟨y, hy1, hy2⟩)
            go_upto_region 26 with (fail)
            have hBX : Hid (Below wr.heap.size wr (wr.alloc (.cells #[.string ⟨x.toArray⟩, .slice la pl.length lc] 33))) := Lib.hid ((Below.refl _ wr).alloc (Nat.le_refl _) _)
            have hbk := new_five wr #[.string ⟨x.toArray⟩, .slice la pl.length lc] 33
            have sX : wr.heap.size < (wr.alloc (.cells #[.string ⟨x.toArray⟩, .slice la pl.length lc] 33)).heap.size := by simp
            have HBK := Lib.hid hbk
            clear hbk c1 c2
            generalize wr.alloc (.cells #[.string ⟨x.toArray⟩, .slice la pl.length lc] 33) = wx at *
            have HQ : Hid (∀ W, Below wx.heap.size wx W → W.cell? ⟨wr.heap.size, 0, none⟩ = some (.string ⟨x.toArray⟩)) := Lib.hid (fun W hW => by
              have := (hW.block wr.heap.size sX).trans HBK.out
              rw [cell_of_row _ _ _ _ _ _ this]; rfl)
            have HX0 : Hid (LSt w1 bg bm g (.slice (some ⟨gg, go, none⟩) (refOf g).length vc) wx wx) := Lib.hid ⟨hS2.out.1.on hBX.out, Below.refl _ _⟩
            have HRX : Hid (∀ W, Below wx.heap.size wx W → StrsC (fun k => k < W.heap.size) W (.slice ra R4.length rc) R4) := Lib.hid (fun W hW => HR.out W ((hS2.out.2.trans (hBX.out.mono hS2.out.2.size)).trans (hW.mono (Nat.le_trans hS2.out.2.size hBX.out.size))))
            have HBW : Hid (∀ W, LSt w1 bg bm g (.slice (some ⟨gg, go, none⟩) (refOf g).length vc) wx W → LSt w1 bg bm g (.slice (some ⟨gg, go, none⟩) (refOf g).length vc) w3 W) := Lib.hid (fun W hW => ⟨hW.1, (hS2.out.2.trans (hBX.out.mono hS2.out.2.size)).trans (hW.2.mono (Nat.le_trans hS2.out.2.size hBX.out.size))⟩)
            clear HBK hgS sX hS2 hBX
            generalize wr.heap.size = bx at *
            obtain ⟨r1, hr1⟩ : ∃ r, comesB g a x = r := ⟨_, rfl⟩
            obtain ⟨r2, hr2⟩ : ∃ r, comesB g b x = r := ⟨_, rfl⟩
            have HR1 := Lib.hid hr1
            have HR2 := Lib.hid hr2
            have HAV : Hid (r1 = true → r2 = true → R4.any (fun y => comesB g y x) = true) := Lib.hid (fun h1 h2 => HABV.out (hr1.trans h1) (hr2.trans h2))
            have q0 := HQ.out wx (Below.refl _ _)
            clear hr1 hr2 HABV
            go_wp2_with fail
            refine (HX0.out.comes ha hxl HR1.out).mono ?_
            rintro e w8 ⟨rfl, g8⟩
            have G8 := Lib.hid g8
            clear g8 q0
            cases r1
            · go_wp2_with fail
              go_roundw
              case rel => exact ⟨j + 1, by omega, by go_num, Lib.hid (HBW.out _ G8.out)⟩
              case measure => simp [intOf]; omega
            · have HAV2 := Lib.hid (HAV.out rfl)
              have q1 := HQ.out w8 G8.out.2
              clear HAV
              go_wp2_with fail
              refine (G8.out.comes hb hxl HR2.out).mono ?_
              rintro e w9 ⟨rfl, g9⟩
              have G9 := Lib.hid g9
              clear g9 q1
              cases r2
              · go_wp2_with fail
                go_roundw
                case rel => exact ⟨j + 1, by omega, by go_num, Lib.hid (HBW.out _ G9.out)⟩
                case measure => simp [intOf]; omega
              · have HALL := Lib.hid (HAV2.out rfl)
                go_wp2_with fail
                go_loopw [114, 17] (fun i f wr => ∃ (m : Nat) (b : Bool), m ≤ R4.length ∧ i = .int .i64 m ∧ f = .bool b ∧ Hid (b = (R4.take m).any (fun y => comesB g y x)) ∧ Hid (LSt w1 bg bm g (.slice (some ⟨gg, go, none⟩) (refOf g).length vc) wx wr)) (fun i _ _ => R4.length - (intOf i).toNat)
                case atStart => exact ⟨0, false, Nat.zero_le _, rfl, rfl, Lib.hid rfl, G9⟩
                case round =>
                  obtain ⟨m, b, hm, rfl, rfl, hb, hS3⟩ := hrel
                  by_cases hml : m < R4.length
                  · obtain ⟨rg, ro, rfl, _, _, _, hc⟩ := (HRX.out wr hS3.out.2).at (by omega)
                    have c3 := hc m hml
                    have hy1 := (HRB.out m hml).1
                    have HTK : Hid ((R4.take (m + 1)).any (fun y => comesB g y x) = ((R4.take m).any (fun y => comesB g y x) || comesB g (R4.getD m []) x)) := Lib.hid (any_take _ hml)
                    have q2 := HQ.out wr hS3.out.2
                    clear hc
                    generalize R4.getD m [] = y at *
                    cases b
                    · obtain ⟨r, hr⟩ : ∃ r, comesB g y x = r := ⟨_, rfl⟩
                      have HRR := Lib.hid hr
                      clear hr
                      go_wp2_with fail
                      refine (hS3.out.comes hy1 hxl HRR.out).mono ?_
                      rintro e w5 ⟨rfl, g5⟩
                      have G5 := Lib.hid g5
                      clear g5
                      go_wp2_with fail
                      go_roundw
                      case rel => exact ⟨m + 1, r, by omega, by go_num, rfl, Lib.hid (by rw [HTK.out, ← hb.out, HRR.out]; rfl), G5⟩
                      case measure => simp [intOf]; omega
                    · go_wp2_with fail
                      go_roundw
                      case rel => exact ⟨m + 1, true, by omega, by go_num, rfl, Lib.hid (by rw [HTK.out, ← hb.out]; rfl), hS3⟩
                      case measure => simp [intOf]; omega
                  · have hbt : b = true := by rw [hb.out, List.take_of_length_le (by omega), HALL.out]
                    subst hbt
                    go_wp2_with fail
                    go_roundw
                    case rel => exact ⟨j + 1, by omega, by go_num, Lib.hid (HBW.out _ hS3.out)⟩
                    case measure => simp [intOf]; omega
          · go_wp2_with fail
            go_ret
            exact ⟨rfl, BE.out _ hS2.out.1⟩
  · have HE := Lib.hid (HOF.out rfl)
    have hsa : Hid (LSt w1 bg bm g vw w3 (w6.alloc (.cells #[.string ⟨b.toArray⟩] 9))) := Lib.hid (G6.out.on ((Below.refl _ w6).alloc (Nat.le_refl _) _))
    have hsb := Lib.hid (strs_one w6 b)
    clear HOF
    go_wp2_with fail
    refine (same_b _ _ _ _ R4 [b] _ (HR.out _ hsa.out.2) hsb.out (by omega) (by simp) (r := true) (by rw [HE.out]; simp)).mono ?_
    rintro e w7 ⟨rfl, n7, hn7⟩
    have G7 : Hid (LSt w1 bg bm g vw w3 w7) := Lib.hid (by rw [hn7]; exact hsa.out.on (drewn _ _ n7))
    clear hn7 hsa hsb G6
    go_wp2_with fail
    go_loopw [59] (fun i wr => ∃ k : Nat, k ≤ R4.length ∧ i = .int .i64 k ∧ Hid (LSt w1 bg bm g vw w3 wr)) (fun i _ => R4.length - (intOf i).toNat)
    case atStart => exact ⟨0, Nat.zero_le _, rfl, G7⟩
    case round =>
      obtain ⟨k, hk, rfl, hS⟩ := hrel
      by_cases hlt : k < R4.length
      · obtain ⟨rg, ro, rfl, _, _, _, hc⟩ := (HR.out wr hS.out.2).at (by omega)
        have c1 := hc k hlt
        obtain ⟨hx1, hx2⟩ := HRB.out k hlt
        have HX := Lib.hid (bases_both HG.out HT.out hx2)
        have HX1 : Hid (∀ j, j < R4.length → R4.getD j [] ≠ R4.getD k [] → comesB g (R4.getD k []) (R4.getD j []) = false) := Lib.hid (fun j hj hne => by
          rw [← Bool.not_eq_true]
          intro hc
          exact hne (tips_anti HG.out HT.out hx2 (HRB.out j hj).2 hc).symm)
        have HRC : Hid (∀ W, Below w3.heap.size w3 W → ∀ j, j < R4.length → W.cell? ⟨rg, ro + j, none⟩ = some (.string ⟨(R4.getD j []).toArray⟩)) := Lib.hid (fun W hW j hj => by
          obtain ⟨g', o', e', _, _, _, h'⟩ := (HR.out W hW).at (by omega)
          cases e'
          exact h' j hj)
        clear hc hx2
        generalize R4.getD k [] = x at *
        go_wp2_with fail
        refine (hS.out.comes ha hx1 HX.out.1).mono ?_
        rintro e w8 ⟨rfl, g8⟩
        have G8 := Lib.hid g8
        clear g8 c1
        go_wp2_with fail
        refine (G8.out.comes hb hx1 HX.out.2).mono ?_
        rintro e w9 ⟨rfl, g9⟩
        have G9 := Lib.hid g9
        clear g9 G8
        go_wp2_with fail
        go_loopw [77] (fun i wr => ∃ j : Nat, j ≤ R4.length ∧ i = .int .i64 j ∧ Hid (LSt w1 bg bm g vw w3 wr)) (fun i _ => R4.length - (intOf i).toNat)
        case atStart => exact ⟨0, Nat.zero_le _, rfl, G9⟩
        case round =>
          obtain ⟨j, hj, rfl, hS2⟩ := hrel
          by_cases hjl : j < R4.length
          · have c2 := HRC.out wr hS2.out.2 j hjl
            obtain ⟨hy1, _⟩ := HRB.out j hjl
            have HXJ := Lib.hid (HX1.out j hjl)
            generalize R4.getD j [] = y at *
            by_cases hxy : y = x
            · have gx : (x == y) = true := by rw [hxy]; simp
              clear hxy
              go_wp2_with fail
              go_roundw
              case rel => exact ⟨j + 1, by omega, by go_num, hS2⟩
              case measure => simp [intOf]; omega
            · have gx : (x == y) = false := by simpa using fun e => hxy e.symm
              have HF := Lib.hid (HXJ.out hxy)
              clear hxy
              go_wp2_with fail
              refine (hS2.out.comes hx1 hy1 HF.out).mono ?_
              rintro e w5 ⟨rfl, g5⟩
              have G5 := Lib.hid g5
              clear g5
              go_wp2_with fail
              go_roundw
              case rel => exact ⟨j + 1, by omega, by go_num, G5⟩
              case measure => simp [intOf]; omega
          · go_wp2_with fail
            go_roundw
            case rel => exact ⟨k + 1, by omega, by go_num, hS2⟩
            case measure => simp [intOf]; omega
      · obtain ⟨va, vc, rfl⟩ := RowsC.shape hS.out.1.nodes
        have HGR := Lib.hid (refOf_len g)
        have hgl : (refOf g).length ≤ 60 := by rw [HGR.out]; exact HGL.out
        go_wp2_with fail
        go_loopw [94] (fun i wr => ∃ j : Nat, j ≤ (refOf g).length ∧ i = .int .i64 j ∧ Hid (LSt w1 bg bm g (.slice va (refOf g).length vc) w3 wr)) (fun i _ => (refOf g).length - (intOf i).toNat)
        case atStart => exact ⟨0, Nat.zero_le _, rfl, hS⟩
        case round =>
          obtain ⟨j, hj, rfl, hS2⟩ := hrel
          by_cases hjl : j < (refOf g).length
          · obtain ⟨gg, go, rfl, hgS, _, _, hc⟩ := NodesC.at hS2.out.1.nodes (by omega)
            obtain ⟨v3, c1, c2, hv3⟩ := hc j hjl
            have hxn := refOf_at (g := g) (k := j) (by rw [← HGR.out]; exact hjl)
            have hxl := HNL.out _ hxn
            obtain ⟨la, lc, rfl⟩ := hv3.shape
            clear hc hv3 hxn
            generalize ((refOf g).getD j ([], [])).1 = x at *
            generalize ((refOf g).getD j ([], [])).2 = pl at *
            have HABV : Hid (comesB g a x = true → comesB g b x = true → R4.any (fun y => comesB g y x) = true) := Lib.hid (fun h1 h2 => by
              obtain ⟨y, hy1, hy2⟩ := bases_above HG.out HT.out h1 h2
              exact List.any_eq_true.2 ⟨y, hy1, hy2⟩)
            go_upto_region 26 with (fail)
            have hBX : Hid (Below wr.heap.size wr (wr.alloc (.cells #[.string ⟨x.toArray⟩, .slice la pl.length lc] 33))) := Lib.hid ((Below.refl _ wr).alloc (Nat.le_refl _) _)
            have hbk := new_five wr #[.string ⟨x.toArray⟩, .slice la pl.length lc] 33
            have sX : wr.heap.size < (wr.alloc (.cells #[.string ⟨x.toArray⟩, .slice la pl.length lc] 33)).heap.size := by simp
            have HBK := Lib.hid hbk
            clear hbk c1 c2
            generalize wr.alloc (.cells #[.string ⟨x.toArray⟩, .slice la pl.length lc] 33) = wx at *
            have HQ : Hid (∀ W, Below wx.heap.size wx W → W.cell? ⟨wr.heap.size, 0, none⟩ = some (.string ⟨x.toArray⟩)) := Lib.hid (fun W hW => by
              have := (hW.block wr.heap.size sX).trans HBK.out
              rw [cell_of_row _ _ _ _ _ _ this]; rfl)
            have HX0 : Hid (LSt w1 bg bm g (.slice (some ⟨gg, go, none⟩) (refOf g).length vc) wx wx) := Lib.hid ⟨hS2.out.1.on hBX.out, Below.refl _ _⟩
            have HRX : Hid (∀ W, Below wx.heap.size wx W → StrsC (fun k => k < W.heap.size) W (.slice ra R4.length rc) R4) := Lib.hid (fun W hW => HR.out W ((hS2.out.2.trans (hBX.out.mono hS2.out.2.size)).trans (hW.mono (Nat.le_trans hS2.out.2.size hBX.out.size))))
            have HBW : Hid (∀ W, LSt w1 bg bm g (.slice (some ⟨gg, go, none⟩) (refOf g).length vc) wx W → LSt w1 bg bm g (.slice (some ⟨gg, go, none⟩) (refOf g).length vc) w3 W) := Lib.hid (fun W hW => ⟨hW.1, (hS2.out.2.trans (hBX.out.mono hS2.out.2.size)).trans (hW.2.mono (Nat.le_trans hS2.out.2.size hBX.out.size))⟩)
            clear HBK hgS sX hS2 hBX
            generalize wr.heap.size = bx at *
            obtain ⟨r1, hr1⟩ : ∃ r, comesB g a x = r := ⟨_, rfl⟩
            obtain ⟨r2, hr2⟩ : ∃ r, comesB g b x = r := ⟨_, rfl⟩
            have HR1 := Lib.hid hr1
            have HR2 := Lib.hid hr2
            have HAV : Hid (r1 = true → r2 = true → R4.any (fun y => comesB g y x) = true) := Lib.hid (fun h1 h2 => HABV.out (hr1.trans h1) (hr2.trans h2))
            have q0 := HQ.out wx (Below.refl _ _)
            clear hr1 hr2 HABV
            go_wp2_with fail
            refine (HX0.out.comes ha hxl HR1.out).mono ?_
            rintro e w8 ⟨rfl, g8⟩
            have G8 := Lib.hid g8
            clear g8 q0
            cases r1
            · go_wp2_with fail
              go_roundw
              case rel => exact ⟨j + 1, by omega, by go_num, Lib.hid (HBW.out _ G8.out)⟩
              case measure => simp [intOf]; omega
            · have HAV2 := Lib.hid (HAV.out rfl)
              have q1 := HQ.out w8 G8.out.2
              clear HAV
              go_wp2_with fail
              refine (G8.out.comes hb hxl HR2.out).mono ?_
              rintro e w9 ⟨rfl, g9⟩
              have G9 := Lib.hid g9
              clear g9 q1
              cases r2
              · go_wp2_with fail
                go_roundw
                case rel => exact ⟨j + 1, by omega, by go_num, Lib.hid (HBW.out _ G9.out)⟩
                case measure => simp [intOf]; omega
              · have HALL := Lib.hid (HAV2.out rfl)
                go_wp2_with fail
                go_loopw [114, 17] (fun i f wr => ∃ (m : Nat) (b : Bool), m ≤ R4.length ∧ i = .int .i64 m ∧ f = .bool b ∧ Hid (b = (R4.take m).any (fun y => comesB g y x)) ∧ Hid (LSt w1 bg bm g (.slice (some ⟨gg, go, none⟩) (refOf g).length vc) wx wr)) (fun i _ _ => R4.length - (intOf i).toNat)
                case atStart => exact ⟨0, false, Nat.zero_le _, rfl, rfl, Lib.hid rfl, G9⟩
                case round =>
                  obtain ⟨m, b, hm, rfl, rfl, hb, hS3⟩ := hrel
                  by_cases hml : m < R4.length
                  · obtain ⟨rg, ro, rfl, _, _, _, hc⟩ := (HRX.out wr hS3.out.2).at (by omega)
                    have c3 := hc m hml
                    have hy1 := (HRB.out m hml).1
                    have HTK : Hid ((R4.take (m + 1)).any (fun y => comesB g y x) = ((R4.take m).any (fun y => comesB g y x) || comesB g (R4.getD m []) x)) := Lib.hid (any_take _ hml)
                    have q2 := HQ.out wr hS3.out.2
                    clear hc
                    generalize R4.getD m [] = y at *
                    cases b
                    · obtain ⟨r, hr⟩ : ∃ r, comesB g y x = r := ⟨_, rfl⟩
                      have HRR := Lib.hid hr
                      clear hr
                      go_wp2_with fail
                      refine (hS3.out.comes hy1 hxl HRR.out).mono ?_
                      rintro e w5 ⟨rfl, g5⟩
                      have G5 := Lib.hid g5
                      clear g5
                      go_wp2_with fail
                      go_roundw
                      case rel => exact ⟨m + 1, r, by omega, by go_num, rfl, Lib.hid (by rw [HTK.out, ← hb.out, HRR.out]; rfl), G5⟩
                      case measure => simp [intOf]; omega
                    · go_wp2_with fail
                      go_roundw
                      case rel => exact ⟨m + 1, true, by omega, by go_num, rfl, Lib.hid (by rw [HTK.out, ← hb.out]; rfl), hS3⟩
                      case measure => simp [intOf]; omega
                  · have hbt : b = true := by rw [hb.out, List.take_of_length_le (by omega), HALL.out]
                    subst hbt
                    go_wp2_with fail
                    go_roundw
                    case rel => exact ⟨j + 1, by omega, by go_num, Lib.hid (HBW.out _ hS3.out)⟩
                    case measure => simp [intOf]; omega
          · go_wp2_with fail
            go_ret
            exact ⟨rfl, BE.out _ hS2.out.1⟩
end Go.Proofs.Ytfphkbbgbfnhaaa
