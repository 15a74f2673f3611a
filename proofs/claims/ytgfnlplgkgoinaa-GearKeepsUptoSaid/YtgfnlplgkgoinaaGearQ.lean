/- The walk of the law GearEdit. -/
import Derived.Test.YtgfnlplgkgoinaaGearP
import Derived.Deep.Cut
namespace Go.Proofs.Ytgfnlplgkgoinaa
open Go.RowKit

theorem next_same {least most bits : Nat} {r r' : List UInt8} {n : Nat} (h : nextLen least most bits r = n) (_hr : r ≠ []) (hl : n < r.length) (hl' : n ≤ r'.length) (ht : r.take n = r'.take n) : nextLen least most bits r' = n := by
  have h1 : 1 ≤ n := by rw [← h]; exact nextLen_pos _ _ _ _
  have hP : ∀ j, j ≤ n → endAt least most bits r' j = endAt least most bits r j := by
    intro j hj
    have e : r'.take j = r.take j := by
      rw [show r'.take j = (r'.take n).take j by rw [List.take_take, Nat.min_eq_left hj], show r.take j = (r.take n).take j by rw [List.take_take, Nat.min_eq_left hj], ht]
    unfold endAt
    rw [e]
  refine nextFrom_eq _ _ _ _ h1 (by omega) (fun j a b => ?_) (Or.inl ?_)
  · rw [hP j (by omega)]
    exact nextFrom_min (endAt least most bits r) (r.length - 1) 1 j a (by unfold nextLen at h; omega)
  · rw [hP n (Nat.le_refl _), ← h]
    exact nextFrom_at (endAt least most bits r) (r.length - 1) 1 (by unfold nextLen at h; omega)
theorem set_drop_take {l : List UInt8} {at' e n : Nat} (x : UInt8) (h : e + n ≤ at') : ((l.set at' x).drop e).take n = (l.drop e).take n := by
  apply List.ext_getElem?
  intro i
  rw [List.getElem?_take, List.getElem?_take]
  by_cases hi : i < n
  · rw [if_pos hi, if_pos hi, List.getElem?_drop, List.getElem?_drop, List.getElem?_set_ne (by omega)]
  · rw [if_neg hi, if_neg hi]
set_option maxRecDepth 100000 in
set_option maxHeartbeats 4000000 in
theorem law_edit (v : Value) (l : List UInt8) (at' : Int) (x : Int) (w : World) (hl : l.length ≤ 1048576) (hB : BytesC (fun k => k < w.heap.size) w v l) (hat : -9223372036854775808 ≤ at' ∧ at' ≤ 9223372036854775807) (hx : 0 ≤ x ∧ x ≤ 255) : Calls Try.prog 6 #[v, .int .i64 at', .int .u8 x] w (True' w) := by
  obtain ⟨i0, hi, hz0, hz1, hz2⟩ := info_parts Try.info5
  have HB := Lib.hid hB
  obtain ⟨ao, ca, rfl⟩ := hB.shape
  clear hB
  by_cases h1 : at' < 0
  · have g1 : decide (at' < 0) = true := by simpa using h1
    go_enter Try.func6, Try.ntmps6
    go_wp2_with fail
    refine (awake_any _).mono ?_
    rintro e w1 ⟨rfl, hb1⟩
    have HB1 := Lib.hid hb1
    clear hb1
    go_wp2_with fail
    go_ret
    exact ⟨rfl, HB1.out⟩
  have g1 : decide (at' < 0) = false := by simpa using h1
  obtain ⟨a, rfl⟩ : ∃ a : Nat, at' = (a : Int) := ⟨at'.toNat, by omega⟩
  obtain ⟨x, rfl⟩ : ∃ y : Nat, x = (y : Int) := ⟨x.toNat, by omega⟩
  by_cases h2 : l.length ≤ a
  · have g2 : decide (l.length ≤ a) = true := by simpa using h2
    go_enter Try.func6, Try.ntmps6
    go_wp2_with fail
    refine (awake_any _).mono ?_
    rintro e w1 ⟨rfl, hb1⟩
    have HB1 := Lib.hid hb1
    clear hb1
    go_wp2_with fail
    go_ret
    exact ⟨rfl, HB1.out⟩
  have g2 : decide (l.length ≤ a) = false := by simpa using h2
  have hal : a < l.length := by omega
  clear h1 h2
  go_enter Try.func6, Try.ntmps6
  go_wp2_with fail
  refine (awake_any _).mono ?_
  rintro e w1 ⟨rfl, hb1⟩
  have hs1 := hb1.size
  have HB1 := Lib.hid hb1
  clear hb1
  go_upto_region 6 with fail
  have hb2 := HB1.out.alloc hs1 (.cells #[.int .i64 4, .int .i64 64, .int .i64 3] 24)
  have hn2 := new_five w1 #[.int .i64 4, .int .i64 64, .int .i64 3] 24
  have hs2 : w1.heap.size < (w1.alloc (.cells #[.int .i64 4, .int .i64 64, .int .i64 3] 24)).heap.size := by simp
  generalize w1.alloc (.cells #[.int .i64 4, .int .i64 64, .int .i64 3] 24) = w2 at *
  generalize w1.heap.size = b7 at *
  have HB2 := Lib.hid hb2
  have HN2 := Lib.hid hn2
  have HS2 := Lib.hid (HB.out.kept (S' := fun k => k < w.heap.size) (w' := w2.alloc (.cells #[] 5)) (fun k hk => ⟨hk, (Below.heap_alloc w2 (.cells #[] 5) k (by omega)).trans (hb2.block k hk)⟩))
  have HE2 := Lib.hid (own_empty w2)
  clear hb2 hn2
  go_wp2_with (at_builtin; refine wpList_own_src _ rfl _ _ 22 22 rfl w2.heap.size 5 i0 (.int .u8 0) 1 1 Try.underlying22 hi hz0 hz1 hz2 rfl (by decide) _ _ _ rfl HE2.out _ _ _ rfl HS2.out.srcC ?c3 ?c4 ?c5 ?_)
  case c3 => simp; unfold maxLen; omega
  case c4 => simp; omega
  case c5 => simp
  intro v3 w3 hown3 hg3
  have hO3 : Own w3 w2.heap.size v3 l := own_more' (l := []) (by simp) hown3
  have hs3 := hg3.size
  simp at hs3
  have hb3 : Below w2.heap.size w2 w3 := (Below.refl w2.heap.size w2).alloc (Nat.le_refl _) _ |>.grown hg3.gb (by simp) (fun k hk => by simp [Value.ownBlock] at hk; omega)
  obtain ⟨g, cap, rfl, hgb, hg1, hg2⟩ := own_some hO3 (List.length_pos_iff.1 (by omega))
  have hcap : l.length ≤ cap ∧ cap ≤ 9223372036854775807 := by
    rcases hO3.2 with ⟨h0, _⟩ | ⟨g', cap', cur, hv, _, _, hnc, hcm, _⟩
    · cases h0
    · injection hv with _ _ e; subst e
      unfold maxLen at hcm; omega
  have hc := World.ownsRow.cellAt hO3 a (by omega)
  have hz := World.ownsRow.frozenAt hO3 a
  rw [bv_at hal] at hc
  have hst2 := World.ownsRow.stored hO3 a (.int .u8 (x : Nat))
  rw [bv_set l a _ (by omega)] at hst2
  have HST := Lib.hid hst2
  have HB3 := Lib.hid hb3
  clear hown3 hg3 hO3 hst2 hb3 hgb
  go_upto_region 8 with fail
  obtain ⟨l2, hl2⟩ : ∃ l2, l2 = l.set a (UInt8.ofNat x) := ⟨_, rfl⟩
  have hlen2 : l2.length = l.length := by rw [hl2, List.length_set]
  have HO4 : Hid (Own (w3.setCell ⟨g, a, none⟩ (.int .u8 x)) w2.heap.size (.slice (some ⟨g, 0, none⟩) l.length cap) l2) := Lib.hid (by unfold Own; rw [hlen2, hl2]; exact HST.out.1)
  have HB4 : Hid (Below w2.heap.size w2 (w3.setCell ⟨g, a, none⟩ (.int .u8 x))) := Lib.hid (HB3.out.grown HST.out.2 (by omega) (fun k hk => by simp at hk; omega))
  generalize w3.setCell ⟨g, a, none⟩ (.int .u8 x) = w4 at *
  have hs4 := HB4.out.size
  have HN4 := Lib.hid ((HB4.out.block b7 hs2).trans HN2.out)
  have HBW4 := Lib.hid (HB2.out.trans (HB4.out.mono HB2.out.size))
  have hwb := HB2.out.size
  have HV4 := Lib.hid (HB.out.kept (S' := fun k => k < w.heap.size) (w' := w4) (fun k hk => ⟨hk, HBW4.out.block k hk⟩))
  have HL2 := Lib.hid hl2
  have hl2l : l2.length ≤ 1048576 := by omega
  have HLEN := Lib.hid hlen2
  obtain ⟨c0, c1, c2⟩ := three_cells HN4.out
  have hgl4 : g < w4.heap.size := (World.ownsRow.lt HO4.out g rfl).2
  clear hc hz HST hl2 hlen2 HB3 HE2 HS2
  go_wp2_with fail
  refine (cut_ok _ _ l 4 64 3 w4 (fun k hk => by omega) HV4.out (by omega) rfl).mono ?_
  rintro e w5 ⟨v5, rfl, hown5, hb5⟩
  have hs5 := hb5.size
  have HL := Lib.hid (ownI_c hown5)
  obtain ⟨la, lc, rfl⟩ := ownI_slice hown5
  have HB5 := Lib.hid hb5
  have hv5 : BytesC (fun k => k < w4.heap.size) w5 (.slice (some ⟨g, 0, none⟩) l2.length cap) l2 := by
    have h := own_c HO4.out
    rw [← HLEN.out] at h
    exact h.kept (fun k hk => ⟨hk.2, hb5.block k hk.2⟩)
  have HV5 := Lib.hid hv5
  have HN5 := Lib.hid ((hb5.block b7 (by omega)).trans HN4.out)
  clear hown5 hb5 hv5 c0 c1 c2
  obtain ⟨c0, c1, c2⟩ := three_cells HN5.out
  rw [← HLEN.out]
  go_wp2_with fail
  refine (cut_ok _ _ l2 4 64 3 w5 (fun k hk => by omega) HV5.out (by omega) rfl).mono ?_
  rintro e w6 ⟨v6, rfl, hown6, hb6⟩
  have hs6 := hb6.size
  have HM := Lib.hid (ownI_c hown6)
  obtain ⟨ma, mc, rfl⟩ := ownI_slice hown6
  have HB6 := Lib.hid hb6
  have HLL := Lib.hid (HL.out.kept (S' := fun k => w4.heap.size ≤ k ∧ k < w5.heap.size) (fun k hk => ⟨hk, hb6.block k hk.2⟩))
  have HBF : Hid (Below w.heap.size w w6) := Lib.hid (HBW4.out.trans ((HB5.out.trans (hb6.mono hs5)).mono HBW4.out.size))
  have HCL := Lib.hid (cut_count 4 64 3 _ l (Nat.le_refl _))
  obtain ⟨L, hL⟩ : ∃ L, L = cutL 4 64 3 l := ⟨_, rfl⟩
  obtain ⟨M, hM⟩ : ∃ M, M = cutL 4 64 3 l2 := ⟨_, rfl⟩
  rw [← hL] at HLL HCL ⊢
  rw [← hM] at HM ⊢
  have hLl : L.length ≤ 1048576 := by have := HCL.out; omega
  have HLe := Lib.hid hL
  have HMe := Lib.hid hM
  clear hown6 hb6 hL hM c0 c1 c2
  go_wp2_with fail
  go_loopw [13, 14] (fun en i wr => ∃ (k e n : Nat) (pre : List Nat), en = .int .i64 e ∧ i = .int .i64 k ∧ k ≤ L.length ∧ pre.length = k ∧ e ≤ a ∧ L = pre ++ cutL 4 64 3 (l.drop e) ∧ M = pre ++ cutL 4 64 3 (l2.drop e) ∧ wr = w6.drewN n)
    (fun _ i _ => L.length - (intOf i).toNat)
  case atStart => exact ⟨0, 0, 0, [], rfl, rfl, Nat.zero_le _, rfl, Nat.zero_le _, HLe.out, HMe.out, rfl⟩
  case round =>
    obtain ⟨k, e, nd, pre, rfl, rfl, hk, hpk, hea, hLp, hMp, hwr⟩ := hrel
    by_cases hlt : k < L.length
    · have hr : (l.drop e) ≠ [] := fun h => by have := congrArg List.length h; rw [List.length_drop, List.length_nil] at this; omega
      have hr2 : (l2.drop e) ≠ [] := fun h => by have := congrArg List.length h; rw [List.length_drop, List.length_nil, HLEN.out] at this; omega
      rw [cutL_cons hr] at hLp
      have hn1 := nextLen_pos 4 64 3 (l.drop e)
      have hn2 := nextLen_most (least := 4) (bits := 3) (l := l.drop e) (most := 64) (by omega)
      have hLk : L[k] = nextLen 4 64 3 (l.drop e) := by
        simp only [hLp]
        rw [List.getElem_append_right (by omega)]
        simp [hpk]
      have HNS := Lib.hid (fun h1 h2 h3 => next_same (least := 4) (most := 64) (bits := 3) (r := l.drop e) (r' := l2.drop e) rfl hr h1 h2 h3)
      have HMC := Lib.hid (cutL_cons (least := 4) (most := 64) (bits := 3) hr2)
      generalize nextLen 4 64 3 (l.drop e) = n at *
      rcases HLL.out with ⟨_, h0⟩ | ⟨aa, ca', h1, _, _, _, hca⟩
      · rw [h0] at hlt; simp at hlt
      injection h1 with e1 _ e1c
      subst e1 e1c
      have d1 : wr.cell? (aa.add k) = some (.int .i64 (n : Nat)) := by rw [hwr]; rw [← hLk]; exact hca k _ (iv_at hlt)
      clear hca
      by_cases hen : a < e + n
      · have g3 : decide ((a : Int) < (e : Int) + (n : Int)) = true := by simp; omega
        have HW := Lib.hid (show Below w.heap.size w wr by rw [hwr]; exact HBF.out.trans (below_drewN _ _ _))
        clear hLp hMp hLk hwr
        go_wp2_with fail
        go_ret
        exact ⟨rfl, HW.out⟩
      · have g3 : decide ((a : Int) < (e : Int) + (n : Int)) = false := by simp; omega
        have hns := HNS.out (by rw [List.length_drop]; omega) (by rw [List.length_drop, HLEN.out]; omega) (by rw [HL2.out]; exact (set_drop_take _ (by omega)).symm)
        have hmc := HMC.out
        rw [hns, List.drop_drop] at hmc
        rw [hmc] at hMp
        rw [List.drop_drop] at hLp
        have hkm : k < M.length := by rw [hMp]; simp; omega
        have hMk : M[k] = n := by
          simp only [hMp]
          rw [List.getElem_append_right (by omega)]
          simp [hpk]
        rcases HM.out with ⟨_, h0⟩ | ⟨bb, cb', h1, _, _, _, hcb⟩
        · rw [h0] at hkm; simp at hkm
        injection h1 with e1 _ e1c
        subst e1 e1c
        have d2 : wr.cell? (bb.add k) = some (.int .i64 (n : Nat)) := by rw [hwr]; rw [← hMk]; exact hcb k _ (iv_at hkm)
        have HLP : Hid (L = (pre ++ [n]) ++ cutL 4 64 3 (l.drop (e + n))) := Lib.hid (by rw [List.append_assoc]; exact hLp)
        have HMP : Hid (M = (pre ++ [n]) ++ cutL 4 64 3 (l2.drop (e + n))) := Lib.hid (by rw [List.append_assoc]; exact hMp)
        have g4 : decide (M.length ≤ k) = false := by simp; omega
        have HPK := Lib.hid hpk
        have HWR := Lib.hid hwr
        clear hcb hLp hMp hLk hMk hmc hns hpk hwr
        go_wp2_with fail
        go_quiet (fail)
        go_wp2_with fail
        go_roundw
        case rel => exact ⟨k + 1, e + n, nd + nq, pre ++ [n], by go_num, by go_num, by omega, by rw [List.length_append, HPK.out]; rfl, by omega, HLP.out, HMP.out, by rw [HWR.out, World.drewN_drewN]⟩
        case measure => simp [intOf]; omega
    · have HW := Lib.hid (show Below w.heap.size w wr by rw [hwr]; exact HBF.out.trans (below_drewN _ _ _))
      clear hLp hMp hwr hpk
      go_wp2_with fail
      go_ret
      exact ⟨rfl, HW.out⟩
end Go.Proofs.Ytgfnlplgkgoinaa
