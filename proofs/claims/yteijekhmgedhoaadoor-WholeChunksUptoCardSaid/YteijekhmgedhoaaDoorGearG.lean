/- The walk of Cut. -/
import Derived.Test.YteijekhmgedhoaaDoorGearF
namespace Go.Proofs.YteijekhmgedhoaaDoor
open Go.RowKit

/-- What three measures in a block hold. -/
theorem three_cells {w : World} {b : Nat} {x y z : Value} {t : TypeId} (h : w.heap[b]? = some (.cells #[x, y, z] t (0, 0))) : w.cell? ⟨b, 0, none⟩ = some x ∧ w.cell? ⟨b, 1, none⟩ = some y ∧ w.cell? ⟨b, 2, none⟩ = some z := by
  refine ⟨?_, ?_, ?_⟩ <;> (unfold World.cell?; rw [h]; rfl)
set_option maxHeartbeats 1000000 in
theorem cut_bad (v : Value) (a b c : Int) (w : World) (h : wrongN a b c = true) : Calls Tryd.prog 61 #[v, par a b c] w fun e w' => e = .returned (.tuple #[.slice none 0 0, .int .i64 1]) ∧ Below w.heap.size w w' := by
  have hc := check_any a b c
  rw [if_pos h] at hc
  have HC := Lib.hid hc
  have HB1 : Hid (Below w.heap.size w (w.alloc (.cells #[.int .i64 a, .int .i64 b, .int .i64 c] 49))) := Lib.hid ((Below.refl _ _).alloc (Nat.le_refl _) _)
  clear hc h
  go_enter Tryd.func61, Tryd.ntmps61
  go_wp2_with fail
  refine (HC.out _).mono ?_
  rintro e w2 ⟨rfl, hb2⟩
  have HB2 := Lib.hid (HB1.out.trans (hb2.mono (by simp)))
  clear hb2
  go_wp2_with fail
  go_ret2
  exact ⟨rfl, HB2.out⟩
theorem cutL_cons {least most bits : Nat} {l : List UInt8} (h : l ≠ []) : cutL least most bits l = nextLen least most bits l :: cutL least most bits (l.drop (nextLen least most bits l)) := by rw [cutL, dif_neg h]
theorem cutL_nil (least most bits : Nat) : cutL least most bits [] = [] := by rw [cutL, dif_pos rfl]
def slen : Value → Nat
  | .slice _ n _ => n
  | _ => 0
set_option maxRecDepth 100000 in
set_option maxHeartbeats 2000000 in
theorem cut_ok (S : Nat → Prop) (v : Value) (l : List UInt8) (least most bits : Nat) (w : World) (hS : ∀ k, S k → k < w.heap.size) (h : BytesC S w v l) (hl : l.length ≤ 4194304) (hg : wrongN least most bits = false) :
    Calls Tryd.prog 61 #[v, par least most bits] w fun e w' => ∃ v', e = .returned (.tuple #[v', .int .i64 0]) ∧ OwnI w' w.heap.size v' (cutL least most bits l) ∧ Below w.heap.size w w' := by
  obtain ⟨i0, hi, hz0, hz1, hz2⟩ := info_parts Tryd.info3
  have hc := check_any least most bits
  rw [if_neg (by rw [hg]; decide)] at hc
  have HC := Lib.hid hc
  unfold wrongN at hg
  replace hg := of_decide_eq_false hg
  have hm1 : 1 ≤ most := by omega
  have hm2 : most ≤ 1048576 := by omega
  have hm3 : bits ≤ 20 := by omega
  have hm4 : least ≤ 1048576 := by omega
  have HCH := Lib.hid (fun S v l w h1 h2 h3 h4 => chunk_any S v l least most bits w h1 h2 h3 h4 hm1 hm2 hm4 hm3)
  have HS := Lib.hid hS
  have H := Lib.hid h
  obtain ⟨a, ca, rfl⟩ := h.shape
  have HB1 : Hid (Below w.heap.size w (w.alloc (.cells #[.int .i64 least, .int .i64 most, .int .i64 bits] 49))) := Lib.hid ((Below.refl _ _).alloc (Nat.le_refl _) _)
  have HN := Lib.hid (new_five w #[.int .i64 least, .int .i64 most, .int .i64 bits] 49)
  clear hc hg h hS hm1 hm2 hm3 hm4
  go_enter Tryd.func61, Tryd.ntmps61
  go_wp2_with fail
  refine (HC.out _).mono ?_
  rintro e w2 ⟨rfl, hb2⟩
  have HB2 := Lib.hid (HB1.out.trans (hb2.mono (by simp)))
  have HN2 := Lib.hid ((hb2.block w.heap.size (by simp)).trans HN.out)
  have hs2 : w.heap.size < w2.heap.size := by have := hb2.size; simp at this; omega
  have H2 := Lib.hid (H.out.kept (S' := S) (fun k hk => ⟨hk, HB2.out.block k (HS.out k hk)⟩))
  clear hb2
  go_wp2_with fail
  go_loopw [0, 7] (fun vb vo wr => ∃ (out : List Nat) (r : List UInt8), BytesC S wr vb r ∧ out.length + r.length ≤ l.length ∧ OwnI wr w2.heap.size vo out ∧ Below w2.heap.size w2 wr ∧ cutL least most bits l = out ++ cutL least most bits r)
    (fun vb _ _ => slen vb)
  case atStart => exact ⟨[], l, H2.out, by simp, ownI_nil _ _, Below.refl _ _, by simp⟩
  case round =>
    obtain ⟨out, r, hr, hol, hown, hbel, hcut⟩ := hrel
    have HR := Lib.hid hr
    have HOW := Lib.hid hown
    have HBE := Lib.hid hbel
    have HCU := Lib.hid hcut
    have hsz := hbel.size
    obtain ⟨ra, rc, rfl⟩ := hr.shape
    have hbk := HBE.out.block w.heap.size hs2
    obtain ⟨c0, c1, c2⟩ := three_cells (hbk.trans HN2.out)
    clear hr hown hbel hcut hbk
    by_cases hrl : 0 < r.length
    · have hrne : r ≠ [] := List.length_pos_iff.1 hrl
      have hn1 := nextLen_pos least most bits r
      have hn2 := nextLen_le least most bits r hrne
      have HCR := Lib.hid (cutL_cons (least := least) (most := most) (bits := bits) hrne)
      have HK := Lib.hid (HCH.out S _ r wr (fun k hk => Nat.lt_of_lt_of_le (HS.out k hk) (by omega)) HR.out (by omega) hrne)
      generalize nextLen least most bits r = n at *
      clear hrne
      go_wp2_with fail
      refine HK.out.mono ?_
      rintro e w3 ⟨rfl, hb3⟩
      have hs3 := hb3.size
      have HB3 := Lib.hid (HBE.out.trans (hb3.mono hsz))
      have HO3 := Lib.hid (own_below HOW.out (fun k _ h2 => hb3.block k h2))
      have HR3 := Lib.hid (HR.out.kept (S' := S) (fun k hk => ⟨hk, hb3.block k (Nat.lt_of_lt_of_le (HS.out k hk) (by omega))⟩))
      clear hb3
      rcases HR3.out with ⟨_, hx⟩ | ⟨aa, ca', h1, hcl, hcm, hbk, _⟩
      · rw [hx] at hrl; simp at hrl
      injection h1 with e1 _ e1c
      subst e1 e1c
      have hcm' : rc ≤ 9223372036854775807 := by unfold maxLen at hcm; omega
      go_wp2_with (at_builtin; refine wpList_own_src _ rfl _ _ 99 99 rfl w2.heap.size 3 i0 (.int .i64 0) 1 8 Tryd.underlying99 hi hz0 hz1 hz2 rfl (by decide) _ _ _ rfl (World.ownsRow.alloc HO3.out _) _ 1 [.int .i64 (n : Int)] rfl (srcI_one _ _) ?c13 ?c14 ?c15 ?_)
      case c13 => unfold maxLen; omega
      case c14 => omega
      case c15 => simp; omega
      intro v4 w4 hown4 hg4
      have HO4 := Lib.hid (ownI_push n rfl hown4)
      have HB4 := Lib.hid ((HB3.out.alloc (by omega) _).grown hg4.gb (by simp; omega) (fun j hj => (World.ownsRow.lt HO3.out j hj).1))
      have HR4 := Lib.hid (HR3.out.kept (S' := S) (w' := w4) (fun k hk => ⟨hk, by
        have hk' := HS.out k hk
        rw [HB4.out.block k (by omega), HB3.out.block k (by omega)]⟩))
      have HQ : Hid (cutL least most bits l = (out ++ [n]) ++ cutL least most bits (r.drop n)) := Lib.hid (by rw [HCU.out, HCR.out, List.append_assoc]; rfl)
      have hdl : (r.drop n).length = r.length - n := List.length_drop
      have HDL := Lib.hid hdl
      clear hown4 hg4 hdl
      by_cases hnc : n < rc
      · go_wp2_with fail
        go_roundw
        case rel => exact ⟨out ++ [n], r.drop n, HR4.out.drop n hn2 hnc, by rw [HDL.out]; simp; omega, HO4.out, HB4.out, HQ.out⟩
        case measure => simp [slen]; omega
      · have hnc2 : n = rc := by omega
        have HN2 := Lib.hid hnc2
        clear hnc2
        go_wp2_with fail
        go_roundw
        case rel =>
          have hd : r.drop n = [] := List.drop_eq_nil_of_le (by have := HN2.out; omega)
          refine ⟨out ++ [n], r.drop n, ?_, by rw [HDL.out]; simp; omega, HO4.out, HB4.out, HQ.out⟩
          rw [hd]
          have e : r.length - n = 0 := by have := HN2.out; omega
          exact Or.inr ⟨aa, _, by rw [e]; rfl, Nat.zero_le _, Nat.le_trans (Nat.sub_le _ _) hcm, Or.inl rfl, fun j u hj => by simp [bv] at hj⟩
        case measure => simp [slen]; omega
    · have hr0 : r = [] := List.length_eq_zero_iff.1 (by omega)
      have hq : out = cutL least most bits l := by rw [HCU.out, hr0, cutL_nil, List.append_nil]
      have HQ := Lib.hid hq
      clear hr0 hq
      go_wp2_with fail
      go_ret2
      exact ⟨_, rfl, by rw [← HQ.out]; exact ⟨HOW.out.1, (HOW.out.2.imp_right (fun ⟨g, cap, cur, e1, e2, e3⟩ => ⟨g, cap, cur, e1, by omega, e3⟩))⟩, HB2.out.trans (HBE.out.mono (by omega))⟩
end Go.Proofs.YteijekhmgedhoaaDoor
