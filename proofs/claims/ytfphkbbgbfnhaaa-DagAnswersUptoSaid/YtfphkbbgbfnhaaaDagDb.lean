/- The law DagMissing. -/
import Derived.Test.YtfphkbbgbfnhaaaDagDa
namespace Go.Proofs.Ytfphkbbgbfnhaaa
open Go.RowKit Go.Shelf Go.Maps Go.Lib Go.Sort

theorem gby_trans {a b c : World} {row : Option Nat} (h : a.grownBy b row) (k : b.grownBy c row) : a.grownBy c row :=
  ⟨k.os.trans h.os, k.tape.trans h.tape, k.output.trans h.output, Nat.le_trans h.size k.size, fun i hi hne => (k.block i (Nat.lt_of_lt_of_le hi h.size) hne).trans (h.block i hi hne)⟩
theorem gby_below {a w : World} (h : Below a.heap.size a w) (row : Option Nat) : a.grownBy w row := ⟨h.os, h.tape, h.output, h.size, fun i hi _ => h.block i hi⟩
theorem below_gby {B : Nat} {a b c : World} {mp : Nat} (h : Below B a b) (hm : B ≤ mp) (hB : B ≤ b.heap.size) (k : b.grownBy c (some mp)) : Below B a c :=
  ⟨k.os.trans h.os, k.tape.trans h.tape, k.output.trans h.output, Nat.le_trans h.size k.size, fun i hi => (k.block i (Nat.lt_of_lt_of_le hi hB) (fun e => by injection e with e; omega)).trans (h.block i hi)⟩
/-- A map that grows, all else as it was. -/
structure MJ (base : World) (mp : Nat) (T : List Txt) (W : World) : Prop where
  gr : base.grownBy W (some mp)
  set : SetAt W mp T.length T
  lt : mp < base.heap.size
theorem MJ.size {base W : World} {mp : Nat} {T : List Txt} (h : MJ base mp T W) : base.heap.size ≤ W.heap.size := h.gr.size
theorem MJ.strs {base W : World} {mp : Nat} {T : List Txt} (h : MJ base mp T W) {v : Value} {l : List Txt} (hv : StrsC (fun k => k < base.heap.size ∧ k ≠ mp) base v l) : StrsC (fun k => k < W.heap.size) W v l :=
  hv.kept (fun k hk => ⟨Nat.lt_of_lt_of_le hk.1 h.size, h.gr.block k hk.1 (fun e => hk.2 (by injection e))⟩)
theorem MJ.on {base W W' : World} {mp : Nat} {T : List Txt} (h : MJ base mp T W) (hb : Below W.heap.size W W') : MJ base mp T W' :=
  ⟨gby_trans h.gr (gby_below hb _), h.set.kept (hb.block mp (Nat.lt_of_lt_of_le h.lt h.size)), h.lt⟩
set_option maxRecDepth 100000 in
set_option maxHeartbeats 16000000 in
theorem dmissing_law (v vl vm : Value) (nodes : List (Txt × List Txt)) (l m : List Txt) (w : World) (h : NodesC (fun k => k < w.heap.size) w v nodes) (hl : StrsC (fun k => k < w.heap.size) w vl l) (hm : StrsC (fun k => k < w.heap.size) w vm m) (hs : sumR nodeB nodes ≤ 1048576) (hsl : sumL l ≤ 1048576) (hsm : sumL m ≤ 1048576) :
    Calls Try.prog 6 #[v, vl, vm] w (TrueP w) := by
  unfold TrueP
  obtain ⟨i0, hi, hz0, hz1, hz2⟩ := info_parts Try.info9s
  have hmm := @run_makeMap Try.prog
  obtain ⟨na, nc, rfl⟩ := RowsC.shape h
  obtain ⟨la, lc, rfl⟩ := hl.shape
  obtain ⟨ma, mc, rfl⟩ := hm.shape
  have hnl := sumR_len nodeB_pos nodes
  obtain ⟨hll, hlb⟩ := sum_bounds hsl (by omega)
  obtain ⟨hml, hmb⟩ := sum_bounds hsm (by omega)
  have H := Lib.hid (fun (W : World) (hb : Below w.heap.size w W) => RowsC.kept node_keeps h (S' := fun k => k < w.heap.size) (w' := W) (fun k hk => ⟨hk, hb.block k hk⟩))
  have HL := Lib.hid (fun (W : World) (hb : Below w.heap.size w W) => hl.kept (S' := fun k => k < w.heap.size) (w' := W) (fun k hk => ⟨hk, hb.block k hk⟩))
  have HM := Lib.hid (fun (W : World) (hb : Below w.heap.size w W) => hm.kept (S' := fun k => k < w.heap.size) (w' := W) (fun k hk => ⟨hk, hb.block k hk⟩))
  have HLB := Lib.hid hlb
  have HMB := Lib.hid hmb
  clear h hl hm hsl hsm hlb hmb
  go_enter Try.func6, Try.ntmps6
  go_wp2_with fail
  refine (awake_any w).mono ?_
  rintro e w1 ⟨rfl, b1⟩
  have B1 := Lib.hid b1
  clear b1
  by_cases h60 : 60 < nodes.length
  · go_wp2_with fail
    go_ret
    exact ⟨rfl, B1.out⟩
  by_cases h20 : 20 < l.length
  · go_wp2_with fail
    go_ret
    exact ⟨rfl, B1.out⟩
  by_cases h21 : 20 < m.length
  · go_wp2_with fail
    go_ret
    exact ⟨rfl, B1.out⟩
  have HB := Lib.hid (built_law (fun k => k < w.heap.size) _ nodes w1 (fun k hk => Nat.lt_of_lt_of_le hk B1.out.size) (H.out w1 B1.out) (by omega) hs)
  go_wp2_with fail
  refine HB.out.mono ?_
  rintro e w2 ⟨bg, bm, vw, rfl, g2⟩
  have G2 := Lib.hid g2
  have BE : Hid (∀ W, Below w2.heap.size w2 W → Below w.heap.size w W) := Lib.hid (fun W hW => (B1.out.trans (g2.below.mono B1.out.size)).trans (hW.mono (Nat.le_trans B1.out.size g2.size)))
  have HG := Lib.hid g2.good
  have HNL := Lib.hid (name_len g2)
  have hs12 := g2.size
  have hs01 := B1.out.size
  have HGL : Hid ((buildN nodes).length ≤ 60) := Lib.hid (by have := buildN_len nodes; omega)
  clear g2 HB H
  generalize buildN nodes = g at *
  have hmp : w2.heap.size < (w2.alloc (.map #[] 0)).heap.size := by simp
  have HS0 := Lib.hid (SetAt.made w2)
  have HB0 : Hid (Below w2.heap.size w2 (w2.alloc (.map #[] 0))) := Lib.hid ((Below.refl _ w2).alloc (Nat.le_refl _) _)
  go_wp2_with fail
  generalize w2.alloc (.map #[] 0) = w3 at *
  obtain ⟨mp, hmpe⟩ : ∃ mp, w2.heap.size = mp := ⟨_, rfl⟩
  have HMP := Lib.hid hmpe
  rw [hmpe] at hmp HS0 ⊢
  clear hmpe
  have HGS : Hid (∀ W, Below w2.heap.size w2 W → GSt w1 W bg bm g) := Lib.hid (fun W hW => (G2.out.on hW).gst)
  have HL2 : Hid (∀ W, Below w2.heap.size w2 W → StrsC (fun k => k < W.heap.size) W (.slice la l.length lc) l) := Lib.hid (fun W hW => (HL.out W (BE.out W hW)).kept (fun k hk => ⟨Nat.lt_of_lt_of_le hk (BE.out W hW).size, rfl⟩))
  have HM2 : Hid (∀ W, Below w2.heap.size w2 W → StrsC (fun k => k < W.heap.size) W (.slice ma m.length mc) m) := Lib.hid (fun W hW => (HM.out W (BE.out W hW)).kept (fun k hk => ⟨Nat.lt_of_lt_of_le hk (BE.out W hW).size, rfl⟩))
  refine ((HGS.out w3 HB0.out).ancestors (fun _ hk => hk) (HM2.out w3 HB0.out) (by omega) HMB.out).mono ?_
  rintro e w4 ⟨v4, rfl, o4, b4⟩
  obtain ⟨A, hA⟩ : ∃ A, missN g m [] = A := ⟨_, rfl⟩
  have hAl : A.length ≤ 60 := by rw [← hA]; exact Nat.le_trans (miss_len g m []) HGL.out
  have HAN : Hid (∀ k, k < A.length → (A.getD k []).length ≤ 4194304) := Lib.hid (fun k hk => HNL.out _ (miss_name HG.out (by rw [hA, getD_at hk]; exact List.getElem_mem hk)))
  rw [hA] at o4
  have HAE := Lib.hid hA
  have B4 : Hid (Below w2.heap.size w2 w4) := Lib.hid (HB0.out.trans (b4.mono HB0.out.size))
  have J4 : Hid (MJ w4 mp [] w4) := Lib.hid ⟨World.grownBy.refl _ _, HS0.out.kept (b4.block mp hmp), Nat.lt_of_lt_of_le hmp b4.size⟩
  have O4 : Hid (StrsC (fun k => k < w4.heap.size ∧ k ≠ mp) w4 v4 A) := Lib.hid ((ownS_c o4).kept (fun k hk => ⟨⟨hk.2, by omega⟩, rfl⟩))
  obtain ⟨a4, c4, rfl⟩ := ownS_slice o4
  have hs24 := B4.out.size
  have HBW4 : Hid (∀ T W, MJ w4 mp T W → Below w2.heap.size w2 W) := Lib.hid (fun T W hW => below_gby B4.out (Nat.le_of_eq HMP.out) B4.out.size hW.gr)
  clear hA o4 b4 HS0 HB0 hmp
  go_wp2_with fail
  go_loopw [47] (fun i wr => ∃ k : Nat, k ≤ A.length ∧ i = .int .i64 k ∧ Hid (MJ w4 mp (A.take k) wr)) (fun i _ => A.length - (intOf i).toNat)
  case atStart => exact ⟨0, Nat.zero_le _, rfl, by rw [List.take_zero]; exact J4⟩
  case round =>
    obtain ⟨k, hk, rfl, hS⟩ := hrel
    by_cases hlt : k < A.length
    · obtain ⟨rg, ro, rfl, _, _, _, hc⟩ := (hS.out.strs O4.out).at (by omega)
      have c1 := hc k hlt
      have hxl := HAN.out k hlt
      have HT : Hid (A.take (k + 1) = A.take k ++ [A.getD k []]) := Lib.hid (take_snoc (d := []) hlt)
      clear hc
      generalize A.getD k [] = x at *
      obtain ⟨T, hT⟩ : ∃ T, A.take k = T := ⟨_, rfl⟩
      rw [hT] at hS HT
      have hTl : T.length ≤ 60 := by rw [← hT]; simp; omega
      clear hT
      obtain ⟨D, hown, htd, hat⟩ := hS.out.set
      have HAT := Lib.hid hat
      have hkey := key_of hxl
      clear hat
      go_wp2_with (at_mapUpdate; refine wpList_mapUpdate_own _ rfl _ _ _ 48 rfl 9 4 keyLaw Try.underlying48 _ mp T.length D rfl hown (by unfold maxLen; omega) _ _ _ rfl rfl hkey (.lit (.bool true)) [] rfl ?_; intro wD hownD hgrowD)
      have JD : Hid (MJ w4 mp (T ++ [x]) wD) := Lib.hid ⟨gby_trans hS.out.gr hgrowD, by rw [List.length_append]; exact SetAt.pushed hownD htd HAT.out, hS.out.lt⟩
      clear hownD hgrowD hown
      go_wp2_with fail
      go_roundw
      case rel => exact ⟨k + 1, by omega, by go_num, by rw [HT.out]; exact JD⟩
      case measure => simp [intOf]; omega
    · have HT : Hid (A.take k = A) := Lib.hid (List.take_of_length_le (by omega))
      rw [HT.out] at hS
      have B5 := Lib.hid (HBW4.out _ _ hS.out)
      clear HT O4
      go_wp2_with fail
      refine ((HGS.out wr B5.out).missing (fun _ hk => hk) (HL2.out wr B5.out) (by omega) HLB.out (fun _ hk => hk) (HM2.out wr B5.out) (by omega) HMB.out).mono ?_
      rintro e w5 ⟨v5, rfl, o5, b5⟩
      obtain ⟨M, hM⟩ : ∃ M, missN g l m = M := ⟨_, rfl⟩
      have hMl : M.length ≤ 60 := by rw [← hM]; exact Nat.le_trans (miss_len g l m) HGL.out
      have HMR : Hid (∀ k, k < M.length → (∀ p ∈ parN g (M.getD k []), p ∈ A ++ M.take k) ∧ M.getD k [] ∉ A ++ M.take k ∧ (M.getD k []).length ≤ 4194304) := Lib.hid (fun k hk => by
        have h1 := miss_round (g := g) (l := l) (m := m) HG.out (k := k) (by rw [hM]; exact hk)
        rw [hM, HAE.out] at h1
        exact ⟨h1.1, h1.2.1, HNL.out _ h1.2.2⟩)
      have HME := Lib.hid hM
      rw [hM] at o5
      have BB5 : Hid (Below w2.heap.size w2 w5) := Lib.hid (B5.out.trans (b5.mono B5.out.size))
      have J5 : Hid (MJ w5 mp A w5) := Lib.hid ⟨World.grownBy.refl _ _, hS.out.set.kept (b5.block mp (Nat.lt_of_lt_of_le hS.out.lt hS.out.size)), Nat.lt_of_lt_of_le (Nat.lt_of_lt_of_le hS.out.lt hS.out.size) b5.size⟩
      have hmw : mp < wr.heap.size := Nat.lt_of_lt_of_le hS.out.lt hS.out.size
      have O5 : Hid (StrsC (fun k => k < w5.heap.size ∧ k ≠ mp) w5 v5 M) := Lib.hid ((ownS_c o5).kept (fun k hk => ⟨⟨hk.2, by omega⟩, rfl⟩))
      obtain ⟨a5, c5, rfl⟩ := ownS_slice o5
      have HBW5 : Hid (∀ T W, MJ w5 mp T W → Below w2.heap.size w2 W) := Lib.hid (fun T W hW => below_gby BB5.out (Nat.le_of_eq HMP.out) BB5.out.size hW.gr)
      clear hM o5 b5 HBW4 hS B5 hmw J4 B4
      go_wp2_with fail
      go_loopw [59] (fun i wr => ∃ k : Nat, k ≤ M.length ∧ i = .int .i64 k ∧ Hid (MJ w5 mp (A ++ M.take k) wr)) (fun i _ => M.length - (intOf i).toNat)
      case atStart => exact ⟨0, Nat.zero_le _, rfl, by rw [List.take_zero, List.append_nil]; exact J5⟩
      case round =>
        obtain ⟨k, hk, rfl, hS⟩ := hrel
        by_cases hlt : k < M.length
        · obtain ⟨rg, ro, rfl, _, _, _, hc⟩ := (hS.out.strs O5.out).at (by omega)
          have c1 := hc k hlt
          obtain ⟨hp1, hp2, hxl⟩ := HMR.out k hlt
          have HP1 := Lib.hid hp1
          have HP2 := Lib.hid hp2
          have HT : Hid (A ++ M.take (k + 1) = (A ++ M.take k) ++ [M.getD k []]) := Lib.hid (by rw [take_snoc (d := []) hlt, List.append_assoc])
          clear hc hp1 hp2
          generalize M.getD k [] = x at *
          obtain ⟨T, hT⟩ : ∃ T, A ++ M.take k = T := ⟨_, rfl⟩
          rw [hT] at hS HT HP1 HP2
          have hTl : T.length ≤ 120 := by rw [← hT]; simp; omega
          clear hT
          have B6 := Lib.hid (HBW5.out _ _ hS.out)
          go_wp2_with fail
          refine ((HGS.out wr B6.out).parents hxl).mono ?_
          rintro e w7 ⟨v7, rfl, o7, b7⟩
          have S7 := Lib.hid (hS.out.on b7)
          have O7 := Lib.hid (own_later o7 w7 (Below.refl _ _))
          obtain ⟨a7, c7, rfl⟩ := ownS_slice o7
          have HPN : Hid (∀ q, q < (parN g x).length → ((parN g x).getD q []).length ≤ 4194304 ∧ decide ((parN g x).getD q [] ∈ T) = true) := Lib.hid (fun q hq => by
            have h1 : (parN g x).getD q [] ∈ parN g x := by rw [getD_at hq]; exact List.getElem_mem hq
            exact ⟨HNL.out _ (par_name HG.out h1), decide_eq_true (HP1.out _ h1)⟩)
          clear o7 b7 c1 HP1
          generalize parN g x = P at *
          go_wp2_with fail
          go_loop [67] (fun i => ∃ q : Nat, q ≤ P.length ∧ i = .int .i64 q) (fun i => P.length - (intOf i).toNat)
          case atStart => exact ⟨0, Nat.zero_le _, rfl⟩
          case round =>
            obtain ⟨q, hq, rfl⟩ := hrel
            by_cases hql : q < P.length
            · obtain ⟨pg, po, rfl, _, _, _, hc⟩ := O7.out.at (by omega)
              have c2 := hc q hql
              obtain ⟨hyl, hyT⟩ := HPN.out q hql
              have hlk := S7.out.set.look hyl hyT
              clear hc hyT
              generalize P.getD q [] = y at *
              go_wp2_with fail
              go_round
              case rel => exact ⟨q + 1, by omega, by go_num⟩
              case measure => simp [intOf]; omega
            · have hlk := S7.out.set.look hxl (decide_eq_false HP2.out)
              obtain ⟨D, hown, htd, hat⟩ := S7.out.set
              have HAT := Lib.hid hat
              have hkey := key_of hxl
              clear hat
              go_wp2_with (at_mapUpdate; refine wpList_mapUpdate_own _ rfl _ _ _ 48 rfl 9 4 keyLaw Try.underlying48 _ mp T.length D rfl hown (by unfold maxLen; omega) _ _ _ rfl rfl hkey (.lit (.bool true)) [] rfl ?_; intro wD hownD hgrowD)
              have JD : Hid (MJ w5 mp (T ++ [x]) wD) := Lib.hid ⟨gby_trans S7.out.gr hgrowD, by rw [List.length_append]; exact SetAt.pushed hownD htd HAT.out, S7.out.lt⟩
              clear hownD hgrowD hown hlk
              go_wp2_with fail
              go_roundw
              case rel => exact ⟨k + 1, by omega, by go_num, by rw [HT.out]; exact JD⟩
              case measure => simp [intOf]; omega
        · have HT : Hid (M.take k = M) := Lib.hid (List.take_of_length_le (by omega))
          rw [HT.out] at hS
          have B6 := Lib.hid (HBW5.out _ _ hS.out)
          clear HT
          go_wp2_with fail
          refine ((HGS.out wr B6.out).ancestors (fun _ hk => hk) (HL2.out wr B6.out) (by omega) HLB.out).mono ?_
          rintro e w7 ⟨v7, rfl, o7, b7⟩
          have S7 := Lib.hid (hS.out.on b7)
          have B7 := Lib.hid (B6.out.trans (b7.mono B6.out.size))
          obtain ⟨Z, hZ⟩ : ∃ Z, missN g l [] = Z := ⟨_, rfl⟩
          have hZl : Z.length ≤ 60 := by rw [← hZ]; exact Nat.le_trans (miss_len g l []) HGL.out
          have HZN : Hid (∀ q, q < Z.length → (Z.getD q []).length ≤ 4194304 ∧ decide (Z.getD q [] ∈ A ++ M) = true) := Lib.hid (fun q hq => by
            have h1 : Z.getD q [] ∈ Z := by rw [getD_at hq]; exact List.getElem_mem hq
            rw [← hZ] at h1
            rw [hZ] at h1
            have h2 : Z.getD q [] ∈ missN g l [] := by rw [hZ]; exact h1
            have h3 := miss_all (m := m) h2
            rw [HAE.out, HME.out] at h3
            exact ⟨HNL.out _ (miss_name HG.out h2), decide_eq_true h3⟩)
          rw [hZ] at o7
          have O7 := Lib.hid (own_later o7 w7 (Below.refl _ _))
          obtain ⟨a7, c7, rfl⟩ := ownS_slice o7
          clear hZ o7 b7
          go_wp2_with fail
          go_loop [86] (fun i => ∃ q : Nat, q ≤ Z.length ∧ i = .int .i64 q) (fun i => Z.length - (intOf i).toNat)
          case atStart => exact ⟨0, Nat.zero_le _, rfl⟩
          case round =>
            obtain ⟨q, hq, rfl⟩ := hrel
            by_cases hql : q < Z.length
            · obtain ⟨pg, po, rfl, _, _, _, hc⟩ := O7.out.at (by omega)
              have c2 := hc q hql
              obtain ⟨hyl, hyT⟩ := HZN.out q hql
              have hlk := S7.out.set.look hyl hyT
              clear hc hyT
              generalize Z.getD q [] = y at *
              go_wp2_with fail
              go_round
              case rel => exact ⟨q + 1, by omega, by go_num⟩
              case measure => simp [intOf]; omega
            · have B8 : Hid (Below w7.heap.size w7 (w7.alloc (.cells #[] 9))) := Lib.hid ((Below.refl _ w7).alloc (Nat.le_refl _) _)
              have BA : Hid (Below w2.heap.size w2 (w7.alloc (.cells #[] 9))) := Lib.hid (B7.out.trans (B8.out.mono B7.out.size))
              have hs7 := B7.out.size
              go_wp2_with (at_builtin; refine wpList_own_src _ rfl _ _ 23 23 rfl w7.heap.size 9 i0 (.string ByteArray.empty) 1 16 Try.underlying23 hi hz0 hz1 hz2 rfl (by decide) _ _ _ rfl (ownS_empty w7) _ m.length (sv m) rfl (StrsC.src (HM2.out _ BA.out)) (by unfold maxLen; simp; omega) (by simp; omega) (by simp) ?_)
              intro v8 w8 hown8 hg8
              have O8 : Hid (OwnS w8 w7.heap.size v8 m) := Lib.hid (by have := ownS_more (l := []) (by simp) hown8; simpa using this)
              have B9 : Hid (Below w7.heap.size w7 w8) := Lib.hid (B8.out.grown hg8.gb (by simp) (fun q hq => (World.ownsRow.lt (ownS_empty w7) q hq).1))
              have BA9 : Hid (Below w2.heap.size w2 w8) := Lib.hid (B7.out.trans (B9.out.mono B7.out.size))
              obtain ⟨a8, c8, rfl⟩ := ownS_slice O8.out
              have hs8 := B9.out.size
              clear hown8 hg8 BA
              go_wp2_with (at_builtin; refine wpList_own_src _ rfl _ _ 23 23 rfl w7.heap.size 9 i0 (.string ByteArray.empty) 1 16 Try.underlying23 hi hz0 hz1 hz2 rfl (by decide) _ _ _ rfl O8.out _ l.length (sv l) rfl (StrsC.src (HL2.out _ BA9.out)) (by unfold maxLen; omega) (by omega) (by omega) ?_)
              intro v9 w9 hown9 hg9
              have O9 : Hid (OwnS w9 w7.heap.size v9 (m ++ l)) := Lib.hid (ownS_more (by simp) hown9)
              have B10 : Hid (Below w7.heap.size w7 w9) := Lib.hid (B9.out.grown hg9.gb B9.out.size (fun q hq => (World.ownsRow.lt O8.out q hq).1))
              have BA10 : Hid (Below w2.heap.size w2 w9) := Lib.hid (B7.out.trans (B10.out.mono B7.out.size))
              have O10 := Lib.hid (own_later O9.out w9 (Below.refl _ _))
              have HNO : Hid (missN g l (m ++ l) = []) := Lib.hid (miss_none l m)
              have HLL : Hid ((m ++ l).length ≤ 4194304) := Lib.hid (by rw [List.length_append]; omega)
              have HLX : Hid (∀ x ∈ m ++ l, x.length ≤ 4194304) := Lib.hid (fun x hx => by
                rcases List.mem_append.1 hx with h | h
                · exact HMB.out x h
                · exact HLB.out x h)
              obtain ⟨ml, hml2⟩ : ∃ ml, m ++ l = ml := ⟨_, rfl⟩
              rw [hml2] at O9 O10 HNO HLL HLX
              obtain ⟨a9, c9, rfl⟩ := ownS_slice O9.out
              clear hown9 hg9 hml2
              go_wp2_with fail
              refine ((HGS.out w9 BA10.out).missing (fun _ hk => hk) (HL2.out w9 BA10.out) (by omega) HLB.out (fun _ hk => hk) O10.out HLL.out HLX.out).mono ?_
              rw [HNO.out]
              rintro e w10 ⟨v10, rfl, o10, b10⟩
              have BF : Hid (Below w.heap.size w w10) := Lib.hid (BE.out _ (BA10.out.trans (b10.mono BA10.out.size)))
              obtain ⟨a10, c10, rfl⟩ := ownS_slice o10
              clear o10 b10
              go_wp2_with fail
              go_ret
              exact ⟨rfl, BF.out⟩
end Go.Proofs.Ytfphkbbgbfnhaaa
