/- The walks of Split and Join. -/
import Derived.Test.YteijekhmgedhoaaDoorGearH
namespace Go.Proofs.YteijekhmgedhoaaDoor
open Go.RowKit

set_option maxHeartbeats 1000000 in
theorem split_bad (v : Value) (a b c : Int) (w : World) (h : wrongN a b c = true) : Calls Tryd.prog 29 #[v, par a b c] w fun e w' => e = .returned (.tuple #[.slice none 0 0, .int .i64 1]) ∧ Below w.heap.size w w' := by
  have HC := Lib.hid (fun w => cut_bad v a b c w h)
  have HB1 : Hid (Below w.heap.size w (w.alloc (.cells #[.int .i64 a, .int .i64 b, .int .i64 c] 49))) := Lib.hid ((Below.refl _ _).alloc (Nat.le_refl _) _)
  clear h
  go_enter Tryd.func29, Tryd.ntmps29
  go_wp2_with fail
  refine (HC.out _).mono ?_
  rintro e w2 ⟨rfl, hb2⟩
  have HB2 := Lib.hid (HB1.out.trans (hb2.mono (by simp)))
  clear hb2
  go_wp2_with fail
  go_ret2
  exact ⟨rfl, HB2.out⟩
theorem cut_count (least most bits : Nat) : ∀ (n : Nat) (l : List UInt8), l.length ≤ n → (cutL least most bits l).length ≤ l.length
  | 0, l, h => by
    obtain rfl : l = [] := List.length_eq_zero_iff.1 (by omega)
    rw [cutL_nil]; exact Nat.le_refl _
  | n + 1, l, h => by
    by_cases hl : l = []
    · subst hl; rw [cutL_nil]; exact Nat.le_refl _
    · have h1 := nextLen_pos least most bits l
      have h2 := nextLen_le least most bits l hl
      have h3 := cut_count least most bits n (l.drop (nextLen least most bits l)) (by rw [List.length_drop]; omega)
      rw [cutL_cons hl, List.length_cons]
      rw [List.length_drop] at h3; omega
theorem own_lower {w : World} {B B' : Nat} {v : Value} {l : List UInt8} (hB : B' ≤ B) (h : Own w B v l) : Own w B' v l := ⟨h.1, h.2.imp_right (fun ⟨g, cap, cur, e1, e2, e3⟩ => ⟨g, cap, cur, e1, Nat.le_trans hB e2, e3⟩)⟩
theorem take_ne {least most bits : Nat} {l : List UInt8} (h : l ≠ []) : l.take (nextLen least most bits l) ≠ [] := by
  intro e
  have h1 := nextLen_pos least most bits l
  have h2 := nextLen_le least most bits l h
  have := congrArg List.length e
  rw [List.length_take, Nat.min_eq_left h2, List.length_nil] at this; omega
set_option maxRecDepth 100000 in
set_option maxHeartbeats 2000000 in
theorem split_ok (S : Nat → Prop) (v : Value) (l : List UInt8) (least most bits : Nat) (w : World) (hS : ∀ k, S k → k < w.heap.size) (h : BytesC S w v l) (hl : l.length ≤ 4194304) (hg : wrongN least most bits = false) :
    Calls Tryd.prog 29 #[v, par least most bits] w fun e w' => ∃ v' vs, e = .returned (.tuple #[v', .int .i64 0]) ∧ Chs w' w.heap.size v' vs (chunksL least most bits l) ∧ Below w.heap.size w w' := by
  obtain ⟨i0, hi, hz0, hz1, hz2⟩ := info_parts Tryd.info22
  have HB1 : Hid (Below w.heap.size w (w.alloc (.cells #[.int .i64 least, .int .i64 most, .int .i64 bits] 49))) := Lib.hid ((Below.refl _ _).alloc (Nat.le_refl _) _)
  have HCU := Lib.hid (cut_ok S v l least most bits (w.alloc (.cells #[.int .i64 least, .int .i64 most, .int .i64 bits] 49)) (fun k hk => by have := hS k hk; simp; omega) (h.alloc hS _) hl hg)
  have HS := Lib.hid hS
  have H := Lib.hid h
  obtain ⟨a, ca, rfl⟩ := h.shape
  clear hg h hS
  go_enter Tryd.func29, Tryd.ntmps29
  go_wp2_with fail
  refine (HCU.out).mono ?_
  rintro e w2 ⟨lv, rfl, hown, hb2⟩
  have hs2 : w.heap.size < w2.heap.size := by have := hb2.size; simp at this; omega
  have HB2 := Lib.hid (HB1.out.trans (hb2.mono (by simp)))
  have HL := Lib.hid (ownI_c hown)
  obtain ⟨la, lc, rfl⟩ := ownI_slice hown
  have H2 := Lib.hid (H.out.kept (S' := S) (fun k hk => ⟨hk, HB2.out.block k (HS.out k hk)⟩))
  obtain ⟨ns, hns⟩ : ∃ ns, ns = cutL least most bits l := ⟨_, rfl⟩
  rw [← hns] at HL ⊢
  have HNS := Lib.hid hns
  have hnl : ns.length ≤ l.length := by rw [hns]; exact cut_count _ _ _ _ _ (Nat.le_refl _)
  clear hown hb2 hns
  go_wp2_with fail
  go_loopw [0, 8, 22] (fun vb vo i wr => ∃ (k : Nat) (r : List UInt8) (vs : List Value) (ls : List (List UInt8)), i = .int .i64 k ∧ k ≤ ns.length ∧ BytesC S wr vb r ∧ r.length ≤ l.length ∧ Chs wr w2.heap.size vo vs ls ∧ ls.length = k ∧ Below w2.heap.size w2 wr ∧ cutL least most bits r = ns.drop k ∧ chunksL least most bits l = ls ++ chunksL least most bits r)
    (fun _ _ i _ => ns.length - (intOf i).toNat)
  case atStart => exact ⟨0, l, [], [], rfl, Nat.zero_le _, H2.out, Nat.le_refl _, Chs.nil _ _, rfl, Below.refl _ _, by rw [HNS.out]; rfl, rfl⟩
  case round =>
    obtain ⟨k, r, vs, ls, rfl, hk, hr, hrl, hch, hlk, hbel, hcut, hchk⟩ := hrel
    have HR := Lib.hid hr
    have HCH := Lib.hid hch
    have HBE := Lib.hid hbel
    have HLK := Lib.hid hlk
    have HCK := Lib.hid hchk
    have hsz := hbel.size
    obtain ⟨ra, rc, rfl⟩ := hr.shape
    by_cases hlt : k < ns.length
    · have hrne : r ≠ [] := by
        intro e
        rw [e, cutL_nil] at hcut
        have := congrArg List.length hcut
        rw [List.length_drop, List.length_nil] at this; omega
      have hcc := cutL_cons (least := least) (most := most) (bits := bits) hrne
      rw [hcut, List.drop_eq_getElem_cons hlt] at hcc
      injection hcc with hn1 hn2
      have HN2 := Lib.hid hn2
      have hp1 := nextLen_pos least most bits r
      have hp2 := nextLen_le least most bits r hrne
      have HTN := Lib.hid (take_ne (least := least) (most := most) (bits := bits) hrne)
      have HCC := Lib.hid (chunksL_cons (least := least) (most := most) (bits := bits) hrne)
      rcases HL.out with ⟨_, h0⟩ | ⟨aa, ca', h1, _, _, hbk, hca⟩
      · rw [h0] at hlt; simp at hlt
      injection h1 with e1 _ e1c
      subst e1 e1c
      have hblk : aa.block < w2.heap.size := by
        rcases hbk with h0 | hbk
        · rw [h0] at hlt; simp at hlt
        · exact hbk.2
      have d1 := (HBE.out.cell (p := aa.add k) (by rw [add_block]; exact hblk)).trans (hca k _ (iv_at hlt))
      rw [hn1] at d1
      rcases HR.out with ⟨_, hx⟩ | ⟨ab, cb', h1, hcl, hcm, hbk2, _⟩
      · exact absurd hx hrne
      injection h1 with e1 _ e1c
      subst e1 e1c
      have hrp : 0 < r.length := List.length_pos_iff.2 hrne
      generalize nextLen least most bits r = n at *
      have hcm' : rc ≤ 9223372036854775807 := by unfold maxLen at hcm; omega
      have HT := Lib.hid (cut_c HR.out n hp2)
      have HTL : Hid ((r.take n).length = n) := Lib.hid (by rw [List.length_take]; omega)
      have HCL := Lib.hid (clone_any S _ (r.take n) wr (by rw [HTL.out]; omega) (fun k hk => Nat.lt_of_lt_of_le (HS.out k hk) (by omega)) HT.out)
      clear hrne hcut hn1 hn2 hbk hca hbk2 hr hch hbel hlk hchk
      go_wp2_with fail
      refine HCL.out.mono ?_
      rintro e w3 ⟨cv, rfl, hcv, hb3⟩
      have hs3 := hb3.size
      obtain ⟨cg, cc, hce, hcb, _, _⟩ := own_some hcv HTN.out
      rw [HTL.out] at hce
      subst hce
      have HCV := Lib.hid hcv
      have HBB3 := Lib.hid hb3
      have HB3 := Lib.hid (HBE.out.trans (hb3.mono hsz))
      have HO3 := Lib.hid (HCH.out.below (w' := w3) (fun k _ h2 => hb3.block k h2))
      have HLV : Hid (vs.length = k) := Lib.hid (by rw [HCH.out.len, HLK.out])
      have hvl : vs.length ≤ 4194304 := by rw [HLV.out]; omega
      clear hcv hb3 hcb
      go_wp2_with (at_builtin; refine wpList_own_src _ rfl _ _ 50 50 rfl w2.heap.size 22 i0 (.slice none 0 0) 1 24 Tryd.underlying50 hi hz0 hz1 hz2 rfl (by decide) _ _ _ rfl (World.ownsRow.alloc HO3.out.row _) _ 1 [.slice (some ⟨cg, 0, none⟩) n cc] rfl (srcB_one _ _ _ _) ?c13 ?c14 ?c15 ?_)
      case c13 => unfold maxLen; omega
      case c14 => omega
      case c15 => simp; omega
      intro v4 w4 hown4 hg4
      have HO4 : Hid (Chs w4 w2.heap.size v4 (vs ++ [.slice (some ⟨cg, 0, none⟩) n cc]) (ls ++ [r.take n])) := Lib.hid (HCH.out.push (HBB3.out.alloc hs3 _) (show Own _ _ _ _ from World.ownsRow.alloc HCV.out _) HTN.out hsz hown4 hg4)
      have HB4 := Lib.hid ((HB3.out.alloc (by omega) _).grown hg4.gb (by simp; omega) (fun j hj => (World.ownsRow.lt HO3.out.row j hj).1))
      have HR4 := Lib.hid (HR.out.kept (S' := S) (w' := w4) (fun k hk => ⟨hk, by
        have hk' := HS.out k hk
        rw [HB4.out.block k (by omega), HBE.out.block k (by omega)]⟩))
      have HQ : Hid (chunksL least most bits l = (ls ++ [r.take n]) ++ chunksL least most bits (r.drop n)) := Lib.hid (by rw [HCK.out, HCC.out, List.append_assoc]; rfl)
      have hdl : (r.drop n).length = r.length - n := List.length_drop
      have HDL := Lib.hid hdl
      clear hown4 hg4 hdl
      by_cases hnc : n < rc
      · go_wp2_with fail
        go_roundw
        case rel => exact ⟨k + 1, r.drop n, _, _, by go_num, by omega, HR4.out.drop n hp2 hnc, by rw [HDL.out]; omega, HO4.out, by rw [List.length_append, HLK.out]; rfl, HB4.out, HN2.out.symm, HQ.out⟩
        case measure => simp [intOf]; omega
      · have hnc2 : n = rc := by omega
        have HN3 := Lib.hid hnc2
        clear hnc2
        go_wp2_with fail
        go_roundw
        case rel =>
          have hd : r.drop n = [] := List.drop_eq_nil_of_le (by have := HN3.out; omega)
          refine ⟨k + 1, r.drop n, _, _, by go_num, by omega, ?_, by rw [HDL.out]; omega, HO4.out, by rw [List.length_append, HLK.out]; rfl, HB4.out, HN2.out.symm, HQ.out⟩
          rw [hd]
          have e : r.length - n = 0 := by have := HN3.out; omega
          exact Or.inr ⟨ab, _, by rw [e]; rfl, Nat.zero_le _, Nat.le_trans (Nat.sub_le _ _) hcm, Or.inl rfl, fun j u hj => by simp [bv] at hj⟩
        case measure => simp [intOf]; omega
    · have hr0 : r = [] := by
        have hdn : ns.drop k = [] := List.drop_eq_nil_of_le (by omega)
        rw [hdn] at hcut
        cases hrr : r with
        | nil => rfl
        | cons x xs =>
          rw [hrr, cutL_cons (by simp)] at hcut
          cases hcut
      have hq : chunksL least most bits l = ls := by rw [hchk, hr0, chunksL_nil, List.append_nil]
      have HQ := Lib.hid hq
      clear hr0 hq hcut hr hch hbel hlk hchk
      go_wp2_with fail
      go_ret2
      have hc := HCH.out
      rw [HQ.out]
      refine ⟨_, vs, rfl, ⟨⟨hc.row.1, hc.row.2.imp_right (fun ⟨g, cap, cur, e1, e2, e3⟩ => ⟨g, cap, cur, e1, by omega, e3⟩)⟩, hc.len, fun j vj lj h1 h2 => ⟨own_lower (by omega) (hc.own j vj lj h1 h2).1, (hc.own j vj lj h1 h2).2⟩, hc.out, hc.dis⟩, HB2.out.trans (HBE.out.mono (by omega))⟩
set_option maxRecDepth 100000 in
set_option maxHeartbeats 2000000 in
theorem join_any (S : Nat → Prop) (v : Value) (ls : List (List UInt8)) (w : World) (hS : ∀ k, S k → k < w.heap.size) (h : ChunksC S w v ls) (hl : ls.flatten.length ≤ 8388608) (hll : ls.length ≤ 4194304) :
    Calls Tryd.prog 30 #[v] w fun e w' => ∃ v', e = .returned v' ∧ Own w' w.heap.size v' ls.flatten ∧ Below w.heap.size w w' := by
  obtain ⟨i0, hi, hz0, hz1, hz2⟩ := info_parts Tryd.info5
  have HS := Lib.hid hS
  have H := Lib.hid h
  obtain ⟨a, ca, rfl⟩ := h.shape
  clear h hS
  go_enter Tryd.func30, Tryd.ntmps30
  go_wp2_with fail
  go_loopw [3, 8] (fun vo i wr => ∃ k : Nat, k ≤ ls.length ∧ i = .int .i64 k ∧ Own wr w.heap.size vo (ls.take k).flatten ∧ Below w.heap.size w wr) (fun _ i _ => ls.length - (intOf i).toNat)
  case atStart => exact ⟨0, Nat.zero_le _, rfl, own_nil _ _, Below.refl _ _⟩
  case round =>
    obtain ⟨k, hk, rfl, hown, hbel⟩ := hrel
    have HOW := Lib.hid hown
    have HBE := Lib.hid hbel
    have hsz := hbel.size
    clear hown hbel
    by_cases hlt : k < ls.length
    · rcases H.out with ⟨_, h0⟩ | ⟨aa, ca', h1, _, _, hbk, hca⟩
      · rw [h0] at hlt; simp at hlt
      injection h1 with e1 _ e1c
      subst e1 e1c
      have hblk : aa.block < w.heap.size := by
        rcases hbk with h0 | hbk
        · rw [h0] at hlt; simp at hlt
        · exact HS.out _ hbk
      obtain ⟨vj, e1, e2⟩ := hca k _ (List.getElem?_eq_getElem hlt)
      have d1 := (HBE.out.cell (p := aa.add k) (by rw [add_block]; exact hblk)).trans e1
      have HX := Lib.hid (e2.kept (S' := S) (w' := wr) (fun j hj => ⟨hj, HBE.out.block j (HS.out j hj)⟩))
      have HFT := Lib.hid (flat_take hlt)
      have hf1 := flat_le ls (k + 1)
      rw [flat_take hlt, List.length_append] at hf1
      generalize hfl : (ls.take k).flatten = fl at *
      have HF1 := Lib.hid hf1
      clear hfl
      obtain ⟨ja, jc, rfl⟩ := e2.shape
      clear e1 e2 hca hbk hf1
      go_wp2_with (at_builtin; refine wpList_own_src _ rfl _ _ 22 22 rfl w.heap.size 5 i0 (.int .u8 0) 1 1 Tryd.underlying22 hi hz0 hz1 hz2 rfl (by decide) _ _ _ rfl HOW.out _ _ _ rfl HX.out.srcC ?c3 ?c4 hsz ?_)
      case c3 => have := HF1.out; unfold maxLen; omega
      case c4 => have := HF1.out; omega
      intro v2 w2 hown2 hg2
      have HO2 : Hid (Own w2 w.heap.size v2 (ls.take (k + 1)).flatten) := Lib.hid (by rw [HFT.out]; exact own_more hown2)
      have HB2 := Lib.hid (HBE.out.grown hg2.gb hsz (fun j hj => (World.ownsRow.lt HOW.out j hj).1))
      clear hown2 hg2
      go_wp2_with fail
      go_roundw
      case rel => exact ⟨k + 1, by omega, by go_num, HO2.out, HB2.out⟩
      case measure => simp [intOf]; omega
    · have hkl : k = ls.length := by omega
      have ho := HOW.out
      rw [hkl, List.take_of_length_le (Nat.le_refl _)] at ho
      have HO := Lib.hid ho
      clear ho hkl
      go_wp2_with fail
      go_ret
      exact ⟨_, rfl, HO.out, HBE.out⟩
end Go.Proofs.YteijekhmgedhoaaDoor
