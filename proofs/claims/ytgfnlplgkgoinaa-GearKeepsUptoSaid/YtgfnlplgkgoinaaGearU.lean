/- The walk of the law GearKeeps. -/
import Derived.Test.YtgfnlplgkgoinaaGearT
namespace Go.Proofs.Ytgfnlplgkgoinaa
open Go.RowKit

theorem add_mk (g j : Nat) : (⟨g, 0, none⟩ : Addr).add j = ⟨g, j, none⟩ := by simp [Addr.add]; omega
set_option maxRecDepth 100000 in
set_option maxHeartbeats 4000000 in
theorem law_keeps_bad (v : Value) (l : List UInt8) (a b c : Int) (w : World) (hl : l.length ≤ 1048576) (hB : BytesC (fun k => k < w.heap.size) w v l) (hg : wrongN a b c = true) : Calls Try.prog 7 #[v, par a b c] w (True' w) := by
  have HC := Lib.hid (fun v w => split_bad v a b c w hg)
  clear hg
  obtain ⟨i0, hi, hz0, hz1, hz2⟩ := info_parts Try.info5
  have HB := Lib.hid hB
  obtain ⟨ao, ca, rfl⟩ := hB.shape
  have HB0 : Hid (Below w.heap.size w (w.alloc (.cells #[.int .i64 a, .int .i64 b, .int .i64 c] 24))) := Lib.hid ((Below.refl _ _).alloc (Nat.le_refl _) _)
  have HN0 := Lib.hid (new_five w #[.int .i64 a, .int .i64 b, .int .i64 c] 24)
  clear hB
  go_enter Try.func7, Try.ntmps7
  go_wp2_with fail
  refine (awake_any _).mono ?_
  rintro e w1 ⟨rfl, hb1⟩
  have hs1 : w.heap.size < w1.heap.size := by have := hb1.size; simp at this; omega
  have HB1 := Lib.hid (HB0.out.trans (hb1.mono (by simp)))
  have HBX1 := Lib.hid ((hb1.block w.heap.size (by simp)).trans HN0.out)
  have HS1 := Lib.hid (HB.out.kept (S' := fun k => k < w.heap.size) (w' := w1.alloc (.cells #[] 5)) (fun k hk => ⟨hk, (Below.heap_alloc w1 (.cells #[] 5) k (by omega)).trans (HB1.out.block k hk)⟩))
  have HE0 := Lib.hid (own_empty w1)
  clear hb1
  go_wp2_with (at_builtin; refine wpList_own_src _ rfl _ _ 22 22 rfl w1.heap.size 5 i0 (.int .u8 0) 1 1 Try.underlying22 hi hz0 hz1 hz2 rfl (by decide) _ _ _ rfl HE0.out _ _ _ rfl HS1.out.srcC ?c3 ?c4 ?c5 ?_)
  case c3 => simp; unfold maxLen; omega
  case c4 => simp; omega
  case c5 => simp
  intro v2 w2 hown2 hg2
  have hO2 : Own w2 w1.heap.size v2 l := own_more' (l := []) (by simp) hown2
  have hs2 := hg2.size
  simp at hs2
  have HB2 : Hid (Below w1.heap.size w1 w2) := Lib.hid ((Below.refl w1.heap.size w1).alloc (Nat.le_refl _) _ |>.grown hg2.gb (by simp) (fun k hk => by simp [Value.ownBlock] at hk; omega))
  clear hown2 hg2
  go_wp2_with (at_builtin; refine wpList_own_src _ rfl _ _ 22 22 rfl w1.heap.size 5 i0 (.int .u8 0) 1 1 Try.underlying22 hi hz0 hz1 hz2 rfl (by decide) _ _ _ rfl (hO2.alloc _) _ 1 [.int .u8 77] rfl (src_one _ _) ?d3 ?d4 ?d5 ?_)
  case d3 => unfold maxLen; omega
  case d4 => omega
  case d5 => simp; omega
  intro v3 w3 hown3 hg3
  have hO3 : Own w3 w1.heap.size v3 (l ++ [77]) := own_one hown3
  have hs3 := hg3.size
  simp at hs3
  have HB3 : Hid (Below w1.heap.size w1 w3) := Lib.hid ((HB2.out.alloc (by omega) _).grown hg3.gb (by simp; omega) (fun k hk => (World.ownsRow.lt hO2 k hk).1))
  rcases hO3.2 with ⟨_, h0⟩ | ⟨g, cap, cur, rfl, hgB, hgc, hgn, hgm, _⟩
  · simp at h0
  have hgl : g < w3.heap.size := (Array.getElem?_eq_some_iff.1 hgc).1
  simp only [List.length_append, List.length_cons, List.length_nil] at hgn
  rw [show (l ++ [(77 : UInt8)]).length = l.length + 1 by simp] at hO3 ⊢
  have HO3 := Lib.hid hO3
  have hcm : cap ≤ 9223372036854775807 := by unfold maxLen at hgm; omega
  have cutV : ∀ w' B' (l' : List UInt8), l'.length = l.length → Own w' B' (.slice (some ⟨g, 0, none⟩) (l.length + 1) cap) (l' ++ [77]) → BytesC (fun k => B' ≤ k ∧ k < w'.heap.size) w' (.slice (some ⟨g, 0, none⟩) l.length cap) l' := by
    intro w' B' l' e h
    have hc := own_c h
    rw [show l.length + 1 = (l' ++ [(77 : UInt8)]).length by simp [e]] at hc
    have h2 := cut_c hc l'.length (by simp)
    rw [List.take_left, e] at h2
    exact h2
  have CV := Lib.hid cutV
  have HBW3 := Lib.hid (HB1.out.trans (HB3.out.mono (by omega)))
  have HBX3 := Lib.hid ((HB3.out.block w.heap.size hs1).trans HBX1.out)
  obtain ⟨c0, c1, c2⟩ := three_cells HBX3.out
  clear hown3 hg3 hO2 hO3 hgc hgm cutV
  go_wp2_with fail
  refine (HC.out _ _).mono ?_
  rintro e w4 ⟨rfl, hb4⟩
  have HB4 := Lib.hid (HBW3.out.trans (hb4.mono HBW3.out.size))
  clear hb4
  go_wp2_with fail
  go_ret
  exact ⟨rfl, HB4.out⟩
set_option maxRecDepth 100000 in
set_option maxHeartbeats 16000000 in
theorem law_keeps_ok (v : Value) (l : List UInt8) (least most bits : Nat) (w : World) (hl : l.length ≤ 1048576) (hB : BytesC (fun k => k < w.heap.size) w v l) (hg : wrongN least most bits = false) : Calls Try.prog 7 #[v, par least most bits] w (True' w) := by
  obtain ⟨i1, hi1, hy0, hy1, hy2⟩ := info_parts Try.info22
  have HC := Lib.hid (fun S v l w h1 h2 h3 => split_ok S v l least most bits w h1 h2 h3 hg)
  have HML := Lib.hid (chunks_len least most bits _ l (Nat.le_refl _))
  have HFL := Lib.hid (chunks_flat least most bits _ l (Nat.le_refl _))
  have HCB := Lib.hid (chunks_ne least most bits _ l (Nat.le_refl _))
  have hcl := cut_count least most bits _ l (Nat.le_refl _)
  have hcc : (chunksL least most bits l).length ≤ 4194304 := by
    have := congrArg List.length HML.out
    rw [List.length_map] at this
    omega
  clear hg hcl HML
  obtain ⟨i0, hi, hz0, hz1, hz2⟩ := info_parts Try.info5
  have HB := Lib.hid hB
  obtain ⟨ao, ca, rfl⟩ := hB.shape
  have HB0 : Hid (Below w.heap.size w (w.alloc (.cells #[.int .i64 least, .int .i64 most, .int .i64 bits] 24))) := Lib.hid ((Below.refl _ _).alloc (Nat.le_refl _) _)
  have HN0 := Lib.hid (new_five w #[.int .i64 least, .int .i64 most, .int .i64 bits] 24)
  clear hB
  go_enter Try.func7, Try.ntmps7
  go_wp2_with fail
  refine (awake_any _).mono ?_
  rintro e w1 ⟨rfl, hb1⟩
  have hs1 : w.heap.size < w1.heap.size := by have := hb1.size; simp at this; omega
  have HB1 := Lib.hid (HB0.out.trans (hb1.mono (by simp)))
  have HBX1 := Lib.hid ((hb1.block w.heap.size (by simp)).trans HN0.out)
  have HS1 := Lib.hid (HB.out.kept (S' := fun k => k < w.heap.size) (w' := w1.alloc (.cells #[] 5)) (fun k hk => ⟨hk, (Below.heap_alloc w1 (.cells #[] 5) k (by omega)).trans (HB1.out.block k hk)⟩))
  have HE0 := Lib.hid (own_empty w1)
  clear hb1
  go_wp2_with (at_builtin; refine wpList_own_src _ rfl _ _ 22 22 rfl w1.heap.size 5 i0 (.int .u8 0) 1 1 Try.underlying22 hi hz0 hz1 hz2 rfl (by decide) _ _ _ rfl HE0.out _ _ _ rfl HS1.out.srcC ?c3 ?c4 ?c5 ?_)
  case c3 => simp; unfold maxLen; omega
  case c4 => simp; omega
  case c5 => simp
  intro v2 w2 hown2 hg2
  have hO2 : Own w2 w1.heap.size v2 l := own_more' (l := []) (by simp) hown2
  have hs2 := hg2.size
  simp at hs2
  have HB2 : Hid (Below w1.heap.size w1 w2) := Lib.hid ((Below.refl w1.heap.size w1).alloc (Nat.le_refl _) _ |>.grown hg2.gb (by simp) (fun k hk => by simp [Value.ownBlock] at hk; omega))
  clear hown2 hg2
  go_wp2_with (at_builtin; refine wpList_own_src _ rfl _ _ 22 22 rfl w1.heap.size 5 i0 (.int .u8 0) 1 1 Try.underlying22 hi hz0 hz1 hz2 rfl (by decide) _ _ _ rfl (hO2.alloc _) _ 1 [.int .u8 77] rfl (src_one _ _) ?d3 ?d4 ?d5 ?_)
  case d3 => unfold maxLen; omega
  case d4 => omega
  case d5 => simp; omega
  intro v3 w3 hown3 hg3
  have hO3 : Own w3 w1.heap.size v3 (l ++ [77]) := own_one hown3
  have hs3 := hg3.size
  simp at hs3
  have HB3 : Hid (Below w1.heap.size w1 w3) := Lib.hid ((HB2.out.alloc (by omega) _).grown hg3.gb (by simp; omega) (fun k hk => (World.ownsRow.lt hO2 k hk).1))
  rcases hO3.2 with ⟨_, h0⟩ | ⟨g, cap, cur, rfl, hgB, hgc, hgn, hgm, _⟩
  · simp at h0
  have hgl : g < w3.heap.size := (Array.getElem?_eq_some_iff.1 hgc).1
  simp only [List.length_append, List.length_cons, List.length_nil] at hgn
  rw [show (l ++ [(77 : UInt8)]).length = l.length + 1 by simp] at hO3 ⊢
  have HO3 := Lib.hid hO3
  have hcm : cap ≤ 9223372036854775807 := by unfold maxLen at hgm; omega
  have cutV : ∀ w' B' (l' : List UInt8), l'.length = l.length → Own w' B' (.slice (some ⟨g, 0, none⟩) (l.length + 1) cap) (l' ++ [77]) → BytesC (fun k => B' ≤ k ∧ k < w'.heap.size) w' (.slice (some ⟨g, 0, none⟩) l.length cap) l' := by
    intro w' B' l' e h
    have hc := own_c h
    rw [show l.length + 1 = (l' ++ [(77 : UInt8)]).length by simp [e]] at hc
    have h2 := cut_c hc l'.length (by simp)
    rw [List.take_left, e] at h2
    exact h2
  have CV := Lib.hid cutV
  have HBW3 := Lib.hid (HB1.out.trans (HB3.out.mono (by omega)))
  have HBX3 := Lib.hid ((HB3.out.block w.heap.size hs1).trans HBX1.out)
  obtain ⟨c0, c1, c2⟩ := three_cells HBX3.out
  clear hown3 hg3 hO2 hO3 hgc hgm cutV
  go_wp2_with fail
  refine (HC.out _ _ l w3 (fun k hk => hk.2) (CV.out _ _ l rfl HO3.out) (by omega)).mono ?_
  rintro e w4 ⟨v4, vs, rfl, hch, hb4⟩
  have hs4 := hb4.size
  have HCH := Lib.hid hch
  have HB4 := Lib.hid hb4
  have HBW4 := Lib.hid (HBW3.out.trans (hb4.mono HBW3.out.size))
  have HCC := Lib.hid hch.c
  have HLS := Lib.hid hch.len
  obtain ⟨xa, xc, rfl⟩ := hch.c.shape
  obtain ⟨ls, hls⟩ : ∃ ls, ls = chunksL least most bits l := ⟨_, rfl⟩
  rw [← hls] at hcc HFL HCH HCC HCB HLS ⊢
  have HLSE := Lib.hid hls
  clear hch hb4 hls c0 c1 c2
  go_wp2_with fail
  refine (join_any _ _ ls w4 (fun k hk => hk.2) HCC.out (by rw [HFL.out]; omega) hcc).mono ?_
  rw [HFL.out]
  rintro e w5 ⟨v5, rfl, hO5, hb5⟩
  have hs5 := hb5.size
  have HO5 := Lib.hid hO5
  have HB5 := Lib.hid hb5
  have HB35 : Hid (Below w3.heap.size w3 w5) := Lib.hid (kept_tr HB4.out hb5)
  obtain ⟨ja, jc, rfl⟩ := own_slice hO5
  have HM5 := Lib.hid (Own.kept HO3.out (w' := w5) (fun k hk => HB35.out.block k (World.ownsRow.lt HO3.out k hk).2))
  clear hO5 hb5
  go_wp2_with fail
  go_loopw [39] (fun i wr => ∃ (k : Nat) (l' : List UInt8), k ≤ l.length ∧ i = .int .i64 k ∧ l'.length = l.length ∧ Own wr w1.heap.size (.slice (some ⟨g, 0, none⟩) (l.length + 1) cap) (l' ++ [77]) ∧ w5.grownBy wr (some g))
    (fun i _ => l.length - (intOf i).toNat)
  case atStart => exact ⟨0, l, Nat.zero_le _, rfl, rfl, HM5.out, kb_refl _ _⟩
  case round =>
    obtain ⟨k, l', hk, rfl, hl', hown, hgr⟩ := hrel
    have HL' := Lib.hid hl'
    have HGR := Lib.hid hgr
    by_cases hlt : k < l.length
    · have hown2 := hown
      unfold Own at hown2
      rw [List.length_append, hl', show l.length + [(77 : UInt8)].length = l.length + 1 from rfl] at hown2
      have hjl : k < (l' ++ [77]).length := by simp; omega
      have hc := World.ownsRow.cellAt hown2 k (by omega)
      have hz := World.ownsRow.frozenAt hown2 k
      rw [bv_at hjl] at hc
      have hset : (l' ++ [(77 : UInt8)]).set k (UInt8.ofNat (((l' ++ [77])[k].toNat + 1) % 256)) = l'.set k (UInt8.ofNat (((l' ++ [77])[k].toNat + 1) % 256)) ++ [77] := by
        rw [List.set_append_left _ _ (by omega)]
      have hlt256 := ((l' ++ [77])[k]).toNat_lt
      generalize ((l' ++ [77])[k]).toNat = cj at *
      have hst2 := World.ownsRow.stored hown2 k (.int .u8 ((cj + 1) % 256 : Nat))
      rw [bv_set _ k _ (by omega), hset] at hst2
      have hwr : IntKind.u8.wrap ((cj : Int) + 1) = (((cj + 1) % 256 : Nat) : Int) := by simp [IntKind.wrap, IntKind.bits, IntKind.signed]
      have HST := Lib.hid hst2
      clear hown hown2 hst2 hl' hgr hset
      go_wp2_with fail
      have e : (((cj + 1) % 256 : Nat) : Int) = ((cj : Int) + 1) % 256 := by omega
      have hst2 := HST.out
      rw [e] at hst2
      refine ⟨⟨k + 1, l'.set k (UInt8.ofNat ((cj + 1) % 256)), by omega, by go_num, by rw [List.length_set]; exact HL'.out, ?_, kb_trans HGR.out hst2.2⟩, by simp [intOf]; omega⟩
      unfold Own
      rw [List.length_append, List.length_set, HL'.out]
      exact hst2.1
    · have hsr := hgr.size
      have HOW := Lib.hid hown
      clear hown hgr
      have kk : Hid (∀ k, k < w5.heap.size → k ≠ g → wr.heap[k]? = w5.heap[k]?) := Lib.hid (fun k hk hne => HGR.out.block k hk (fun e => hne (by injection e)))
      have HCH6 := Lib.hid (HCH.out.below (w' := wr) (fun k h1 h2 => (kk.out k (by omega) (by omega)).trans (HB5.out.block k h2)))
      have HO6 := Lib.hid (Own.kept HO5.out (w' := wr) (fun k hk => kk.out k (World.ownsRow.lt HO5.out k hk).2 (by have := (World.ownsRow.lt HO5.out k hk).1; omega)))
      have HBW6 : Hid (Below w.heap.size w wr) := Lib.hid ((HBW4.out.trans (HB5.out.mono HBW4.out.size)).grown HGR.out (by omega) (fun k hk => by injection hk with hk; omega))
      have HBX6 := Lib.hid ((kk.out w.heap.size (by omega) (by omega)).trans ((HB35.out.block w.heap.size (by omega)).trans HBX3.out))
      have HRB : Hid (∀ k, (Value.slice xa ls.length xc).ownBlock = some k → w3.heap.size ≤ k ∧ k < w4.heap.size) := Lib.hid (fun k hk => World.ownsRow.lt HCH.out.row k hk)
      have HXB : Hid (∀ (j : Nat) x, vs[j]? = some x → ∃ k, x.ownBlock = some k ∧ k < w4.heap.size) := Lib.hid (fun j x hj => by obtain ⟨k, e1, _, e3⟩ := HCH.out.at hj; exact ⟨k, e1, e3⟩)
      obtain ⟨w6, hw6⟩ : ∃ w6, w6 = wr := ⟨_, rfl⟩
      clear kk HM5
      subst hw6
      go_wp2_with fail
      go_loopw [51] (fun i wr => ∃ (k : Nat) (us : List Value), k ≤ ls.length ∧ i = .int .i64 k ∧ Chs wr w3.heap.size (.slice xa ls.length xc) us (more ls k) ∧ us.length = ls.length ∧ (∀ j, k ≤ j → us[j]? = vs[j]?) ∧ (∀ k, k < w6.heap.size → (k < w3.heap.size ∨ w4.heap.size ≤ k) → wr.heap[k]? = w6.heap[k]?) ∧ Below w.heap.size w wr ∧ w6.heap.size ≤ wr.heap.size)
        (fun i _ => ls.length - (intOf i).toNat)
      case atStart => exact ⟨0, vs, Nat.zero_le _, rfl, HCH6.out, HLS.out, fun _ _ => rfl, fun _ _ _ => rfl, HBW6.out, Nat.le_refl _⟩
      case round =>
        obtain ⟨k, us, hk, rfl, hch, hul, hvs, hkp, hbw, hsz⟩ := hrel
        have HCHr := Lib.hid hch
        have HVS := Lib.hid hvs
        have HKP := Lib.hid hkp
        have HBWr := Lib.hid hbw
        have HUL := Lib.hid hul
        clear hvs hkp hbw
        by_cases hlt : k < ls.length
        · have hku : k < us.length := by omega
          obtain ⟨hx1, hx2⟩ := hch.own k _ _ (List.getElem?_eq_getElem hku) (more_at ls k hlt)
          obtain ⟨xg, xcap, hxe, hxb, hx3, hx4⟩ := own_some hx1 hx2
          have HXO := Lib.hid hx1
          have hlen1 := (HCB.out ls[k] (List.getElem_mem hlt)).2
          have HMS := Lib.hid (more_succ ls k hlt)
          have HUK : Hid (us[k]? = some us[k]) := Lib.hid (List.getElem?_eq_getElem hku)
          have hrow := hch.row
          rw [hul] at hrow
          obtain ⟨rg, hrg⟩ : ∃ rg, xa = some ⟨rg, 0, none⟩ := by
            rcases hrow.2 with ⟨_, hn⟩ | ⟨rg, rcap, rcur, hv, _⟩
            · omega
            · injection hv with hv; exact ⟨rg, hv⟩
          subst hrg
          have hc := World.ownsRow.cellAt hrow k (by omega)
          rw [List.getElem?_eq_getElem hku] at hc
          have HROW := Lib.hid hrow
          have hxs : ∀ q, us[k].ownBlock = some q → q < w4.heap.size := fun q hq => by
            obtain ⟨q', e1, e2⟩ := HXB.out k us[k] (by rw [← HVS.out k (Nat.le_refl _)]; exact HUK.out)
            rw [e1] at hq; injection hq with hq; omega
          have HXS := Lib.hid hxs
          have hxlo : ∀ q, us[k].ownBlock = some q → w3.heap.size ≤ q := fun q hq => (World.ownsRow.lt HXO.out q hq).1
          have HXLO := Lib.hid hxlo
          generalize us[k] = x at *
          generalize ls[k] = lk at *
          subst hxe
          clear hx1 hrow hxs hch hul hxlo
          have hzr : ∀ u : Value, True := fun _ => trivial
          clear hzr
          have HXA := Lib.hid (World.ownsRow.alloc HXO.out (.cells #[.int .u8 99] 5))
          go_wp2_with (at_builtin; refine wpList_own_src _ rfl _ _ 22 22 rfl w3.heap.size 5 i0 (.int .u8 0) 1 1 Try.underlying22 hi hz0 hz1 hz2 rfl (by decide) _ _ _ rfl HXA.out _ 1 [.int .u8 99] rfl (src_one _ _) ?e3 ?e4 ?e5 ?_)
          case e3 => unfold maxLen; omega
          case e4 => omega
          case e5 => simp; omega
          intro v7 w7 hown7 hg7
          have hG : Grew wr w7 (.slice (some ⟨xg, 0, none⟩) lk.length xcap) v7 := (Grew.alloc wr _ _).trans hg7
          have HO7 : Hid (Own w7 w3.heap.size v7 (lk ++ [99])) := Lib.hid (own_one hown7)
          have HG := Lib.hid hG
          have hxrg : xg ≠ rg := fun e => HCHr.out.out k _ HUK.out (by rw [e]; rfl)
          have hrgb := HRB.out rg rfl
          have hs7 := hG.size
          have hrgl := (World.ownsRow.lt HROW.out rg rfl).2
          have HROW7 := Lib.hid (row_kept HROW.out (w' := w7) (fun q h1 => by
            simp [Value.ownBlock] at h1
            subst h1
            exact hG.gb.block rg hrgl (fun e => hxrg (by simpa [Value.ownBlock] using e.symm))))
          have hc7 := World.ownsRow.cellAt HROW7.out k (by omega)
          have hz7 := World.ownsRow.frozenAt HROW7.out k
          rw [HUK.out] at hc7
          obtain ⟨g7, cap7, h7e, _, _, _⟩ := own_some HO7.out (by simp)
          rw [show (lk ++ [(99 : UInt8)]).length = lk.length + 1 by simp] at h7e
          subst h7e
          have HST := Lib.hid (World.ownsRow.stored HROW7.out k (.slice (some ⟨g7, 0, none⟩) (lk.length + 1) cap7))
          have hxgb : xg < w4.heap.size ∧ w3.heap.size ≤ xg := ⟨HXS.out xg rfl, HXLO.out xg rfl⟩
          have hbc := HBWr.out.size
          clear hown7 hg7 hG hc
          go_wp2_with fail
          go_roundw
          case rel =>
            have hst := HST.out
            have hsz8 := hst.2.size
            refine ⟨k + 1, us.set k (.slice (some ⟨g7, 0, none⟩) (lk.length + 1) cap7), by omega, by go_num, ?_, by rw [List.length_set]; exact HUL.out, fun j hj => by rw [List.getElem?_set_ne (by omega)]; exact HVS.out j (by omega), fun q hq hq2 => ?_, ?_, by omega⟩
            · rw [← HMS.out]
              exact HCHr.out.upd HUK.out HG.out HO7.out (by simp) (by rw [HUL.out]; exact hst.1) hst.2
            · have e1 := hst.2.block q (by omega) (fun e => by injection e with e; omega)
              have e2 := HG.out.gb.block q (by omega) (fun e => by simp [Value.ownBlock] at e; omega)
              rw [e1, e2, HKP.out q hq hq2]
            · exact (HBWr.out.grown HG.out.gb (by omega) (fun q hq => by simp [Value.ownBlock] at hq; omega)).grown hst.2 (by omega) (fun q hq => by injection hq with hq; omega)
          case measure => simp [intOf]; omega
        · have hkl : k = ls.length := by omega
          rw [hkl] at hch
          obtain ⟨wz, hwz⟩ : ∃ wz, wz = wr := ⟨_, rfl⟩
          subst hwz
          have hs7 := hsz
          have hbx := (HKP.out w.heap.size (by omega) (by omega)).trans HBX6.out
          obtain ⟨c0, c1, c2⟩ := three_cells hbx
          have HV7 := Lib.hid (HB.out.kept (S' := fun k => k < w.heap.size) (w' := wz) (fun k hk => ⟨hk, HBWr.out.block k hk⟩))
          have HO7 := Lib.hid (Own.kept HO6.out (w' := wz) (fun q hq => by
            have h1 := World.ownsRow.lt HO6.out q hq
            exact HKP.out q h1.2 (Or.inr h1.1)))
          have HM7 := Lib.hid (Own.kept HOW.out (w' := wz) (fun q hq => by
            simp [Value.ownBlock] at hq
            exact HKP.out q (by omega) (Or.inl (by omega))))
          have HCH7 := Lib.hid hch
          have hww := HBWr.out.size
          have hlsl : ls.length ≤ 4194304 := hcc
          clear hch hbx HVS
          go_wp2_with fail
          refine (HC.out _ _ l wz (fun k hk => Nat.lt_of_lt_of_le hk hww) HV7.out (by omega)).mono ?_
          rintro e w8 ⟨v8, ds, rfl, hd8, hb8⟩
          rw [← HLSE.out] at hd8
          have hs8 := hb8.size
          have HB8 := Lib.hid hb8
          have HD8 := Lib.hid hd8
          have HDS := Lib.hid hd8.len
          obtain ⟨da, dc, rfl⟩ := hd8.c.shape
          have HBW8 := Lib.hid (HBWr.out.trans (hb8.mono hww))
          have HCH8 := Lib.hid (HCH7.out.below (w' := w8) (fun k _ h2 => hb8.block k h2))
          clear hd8 hb8 c0 c1 c2
          go_wp2_with fail
          go_loopw [72] (fun i wq => ∃ (k n : Nat), i = .int .i64 k ∧ k ≤ ls.length ∧ wq = w8.drewN n) (fun i _ => ls.length - (intOf i).toNat)
          case atStart => exact ⟨0, 0, rfl, Nat.zero_le _, rfl⟩
          case round =>
            obtain ⟨k, n, rfl, hk, hwr⟩ := hrel
            by_cases hlt : k < ls.length
            · have hku : k < (us.length) := by rw [HUL.out]; exact hlt
              have hkd : k < ds.length := by rw [HDS.out]; exact hlt
              obtain ⟨hx1, hx2⟩ := HCH8.out.own k _ _ (List.getElem?_eq_getElem hku) (more_all ls k hlt)
              obtain ⟨hd1, hd2⟩ := HD8.out.own k _ _ (List.getElem?_eq_getElem hkd) (List.getElem?_eq_getElem hlt)
              obtain ⟨xg, xcap, hxe, _, _, _⟩ := own_some hx1 hx2
              obtain ⟨dg, dcap, hde, _, _, _⟩ := own_some hd1 hd2
              have hlen1 := (HCB.out ls[k] (List.getElem_mem hlt)).2
              rcases HCH8.out.row.2 with ⟨_, hn⟩ | ⟨rg, rcap, rcur, hrv, _⟩
              · rw [HUL.out] at hn; omega
              injection hrv with hrv _ hrc
              subst hrv hrc
              rcases HD8.out.row.2 with ⟨_, hn⟩ | ⟨qg, qcap, qcur, hqv, _⟩
              · rw [HDS.out] at hn; omega
              injection hqv with hqv _ hqc
              subst hqv hqc
              have d1 : wr.cell? ⟨rg, k, none⟩ = some us[k] := by
                rw [hwr]
                have h := World.ownsRow.cells HCH8.out.row rfl k _ (List.getElem?_eq_getElem hku)
                have e : (⟨rg, 0, none⟩ : Addr).add k = ⟨rg, k, none⟩ := by simp [Addr.add]; omega
                rw [e] at h; exact h
              have d2 : wr.cell? ⟨qg, k, none⟩ = some ds[k] := by
                rw [hwr]
                have h := World.ownsRow.cells HD8.out.row rfl k _ (List.getElem?_eq_getElem hkd)
                have e : (⟨qg, 0, none⟩ : Addr).add k = ⟨qg, k, none⟩ := by simp [Addr.add]; omega
                rw [e] at h; exact h
              generalize us[k] = x at *
              generalize ds[k] = y at *
              generalize ls[k] = lk at *
              rw [show (lk ++ [(99 : UInt8)]).length = lk.length + 1 by simp] at hxe
              subst hxe hde
              have hxc : lk.length + 1 ≤ xcap ∧ xcap ≤ 9223372036854775807 := by
                rcases hx1.2 with ⟨h0, _⟩ | ⟨g', cap', cur', hv, _, _, hnc, hcm', _⟩
                · cases h0
                · injection hv with _ _ e; subst e
                  simp at hnc
                  unfold maxLen at hcm'; omega
              obtain ⟨hxc1, hxc2⟩ := hxc
              have hv1 : ∀ nq, (convert 22 9 (.slice (some ⟨xg, 0, none⟩) lk.length xcap)).run Try.prog (wr.drewN nq) = .ok (.string ⟨lk.toArray⟩) (wr.drewN nq) := fun nq => by
                have hc := own_c hx1
                rw [show lk.length + 1 = (lk ++ [(99 : UInt8)]).length by simp] at hc
                have h2 := cut_c hc lk.length (by simp)
                rw [List.take_left] at h2
                rw [hwr]
                exact bytes_str ((h2.drewN n).drewN nq)
              have hv2 : ∀ nq, (convert 22 9 (.slice (some ⟨dg, 0, none⟩) lk.length dcap)).run Try.prog (wr.drewN nq) = .ok (.string ⟨lk.toArray⟩) (wr.drewN nq) := fun nq => by
                rw [hwr]
                exact bytes_str (((own_c hd1).drewN n).drewN nq)
              have HWQ := Lib.hid hwr
              have hb1' : (0 : Int) ≤ (lk.length : Int) := by omega
              have hb2' : (lk.length : Int) ≤ (xcap : Int) := by omega
              have HV1 := Lib.hid hv1
              have HV2 := Lib.hid hv2
              clear hx1 hx2 hd1 hd2 hwr hxc1 hxc2 hcm hv1 hv2 hkl hul hl'
              go_wp2_with fail
              have hv1 := HV1.out
              have hv2 := HV2.out
              go_quiet (fail)
              go_wp2_with fail
              go_roundw
              case rel => exact ⟨k + 1, n + nq, by go_num, by omega, by rw [HWQ.out, World.drewN_drewN]⟩
              case measure => simp [intOf]; omega
            · have HWF := Lib.hid (show Below w.heap.size w wr by rw [hwr]; exact HBW8.out.trans (below_drewN _ _ _))
              have hj1 : (convert 22 9 (.slice ja l.length jc)).run Try.prog wr = .ok (.string ⟨l.toArray⟩) wr := by
                rw [hwr]
                exact bytes_str (((own_c HO7.out).kept (S' := fun k => w4.heap.size ≤ k ∧ k < wz.heap.size) (fun k hk => ⟨hk, HB8.out.block k hk.2⟩)).drewN n)
              have hj2 : (convert 22 9 (.slice ao l.length ca)).run Try.prog wr = .ok (.string ⟨l.toArray⟩) wr := by
                exact bytes_str (HB.out.kept (S' := fun k => k < w.heap.size) (fun k hk => ⟨hk, HWF.out.block k hk⟩))
              have hm : wr.cell? ⟨g, l.length, none⟩ = some (.int .u8 77) := by
                have h := World.ownsRow.cells HM7.out rfl l.length (.int .u8 77) (by
                  rw [bv_append, List.getElem?_append_right (by rw [bv_len, HL'.out]; exact Nat.le_refl _), bv_len, HL'.out, Nat.sub_self]; rfl)
                have e := add_mk g l.length
                rw [e] at h
                rw [hwr]
                exact (HB8.out.cell (p := ⟨g, l.length, none⟩) (by show g < _; omega)).trans h
              clear hwr
              go_wp2_with fail
              go_ret
              exact ⟨rfl, HWF.out⟩
end Go.Proofs.Ytgfnlplgkgoinaa
