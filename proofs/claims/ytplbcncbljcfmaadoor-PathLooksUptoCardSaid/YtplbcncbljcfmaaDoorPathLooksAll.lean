/- The walk of law PathLooks. -/
import Derived.Test.YtplbcncbljcfmaaDoorPathO
namespace Go.Proofs.YtplbcncbljcfmaaDoor
open Go.RowKit Go.Lib

set_option maxRecDepth 100000 in
set_option maxHeartbeats 4000000 in
theorem looks_law (a b : List UInt8) (S : Nat → Prop) (v : Value) (l : List (List UInt8)) (w : World) (ha : a.length ≤ 4194300) (hb' : b.length ≤ 4194300) (hl : sumL l ≤ 4194304) (hS : ∀ k, S k → k < w.heap.size) (h : StrsC S w v l) (hE : PEnv w) :
    Calls Tryd.prog 8 #[.string ⟨a.toArray⟩, .string ⟨b.toArray⟩, v] w (TrueP w) := by
  unfold TrueP
  have H := Lib.hid h
  have HS := Lib.hid hS
  have HE := Lib.hid hE
  have HSP := Lib.hid (fun W h => split_any a W (by omega) h)
  have HRS := Lib.hid (fun W => rsplit_any a W (by omega))
  have HCK := Lib.hid (fun W h => check_any a W (by omega) h)
  have HRC := Lib.hid (fun W => rcheck_any a W (by omega))
  have HNM := Lib.hid (fun W => name_any a W (by omega))
  have HRN := Lib.hid (fun W => rname_any a W (by omega))
  have HJ := Lib.hid (fun S v W h1 h2 => join_any S v l W h1 h2 hl)
  have HRJ := Lib.hid (fun S v W h2 => rjoin_any S v l W h2 hl)
  have HPA := Lib.hid (fun W => parent_any a W (by omega))
  have HRP := Lib.hid (fun W => rparent_any a W ha)
  have HUN := Lib.hid (fun W => under_any a b W)
  have HRU := Lib.hid (fun W => runder_any a b W (by omega))
  have HCM := Lib.hid (fun W => compare_any a b W (by omega) (by omega))
  have HRM := Lib.hid (fun W => rcompare_any a b W (by omega) (by omega))
  have hnl := namesL_len a
  generalize checkN a = ck at *
  generalize nameB a = nm at *
  obtain ⟨jo, hjo⟩ : ∃ x, (⟨(joinL l).toArray⟩ : ByteArray) = x := ⟨_, rfl⟩
  obtain ⟨pa, hpa⟩ : ∃ x, (⟨(parentN a).toArray⟩ : ByteArray) = x := ⟨_, rfl⟩
  rw [hjo] at HJ HRJ
  rw [hpa] at HPA HRP
  generalize underB a b = un at *
  generalize cmpP a b = cm at *
  generalize namesL a = L at *
  clear hjo hpa hl
  go_enter Tryd.func8, Tryd.ntmps8
  go_wp2_with fail
  refine (awake5_any _ HE.out).mono ?_
  rintro e w1 ⟨rfl, hb1⟩
  have B1 := Lib.hid hb1
  have hs1 := hb1.size
  clear hb1
  go_wp2_with fail
  refine (HSP.out _ (HE.out.on B1.out)).mono ?_
  rintro e w2 ⟨v2, rfl, hv2, hb2⟩
  have V2 := Lib.hid hv2
  have B2 := Lib.hid (B1.out.trans (hb2.mono hs1))
  have hs2 := hb2.size
  obtain ⟨xa, xc, rfl⟩ := hv2.shape
  clear hv2 hb2
  go_wp2_with fail
  refine (HRS.out _).mono ?_
  rintro e w3 ⟨v3, rfl, hv3, hb3⟩
  have V3 := Lib.hid (ownS_c hv3)
  have V2' := Lib.hid (V2.out.kept (S' := fun k => w1.heap.size ≤ k ∧ k < w2.heap.size) (w' := w3) (fun k hk => ⟨hk, hb3.block k hk.2⟩))
  have B3 := Lib.hid (B2.out.trans (hb3.mono B2.out.size))
  obtain ⟨ya, yc, rfl⟩ := ownS_slice hv3
  clear hv3 hb3 V2
  go_wp2_with fail
  go_loopw [9, 23] (fun _ i wr => ∃ k n : Nat, k ≤ L.length ∧ i = .int .i64 k ∧ wr = w3.drewN n) (fun _ i _ => L.length - (intOf i).toNat)
  case atStart => exact ⟨0, 0, Nat.zero_le _, rfl, rfl⟩
  case round =>
    obtain ⟨k, n, hk1, rfl, rfl⟩ := hrel
    by_cases h1 : k < L.length
    · obtain ⟨bx, rfl, _, _, hx⟩ := V2'.out.at (by omega)
      obtain ⟨byy, rfl, _, _, hy⟩ := V3.out.at (by omega)
      have cx := hx k h1
      have cy := hy k h1
      generalize L.getD k [] = x at *
      clear hx hy
      go_wp2_with fail
      go_quiet (fail)
      go_wp2_with fail
      go_roundw
      case rel => exact ⟨k + 1, _, by omega, by go_num, rfl⟩
      case measure => simp [intOf]; omega
    · have BD := Lib.hid (B3.out.trans (drewn w.heap.size w3 n))
      generalize w3.drewN n = w4 at *
      clear V2' V3 B1 B2 B3 HSP HRS
      go_wp2_with fail
      refine (HCK.out _ (HE.out.on BD.out)).mono ?_
      rintro e w5 ⟨rfl, hb5⟩
      have B5 := Lib.hid (BD.out.trans (hb5.mono BD.out.size))
      clear hb5
      go_wp2_with fail
      refine (HRC.out _).mono ?_
      rintro e w6 ⟨rfl, hb6⟩
      have B6 := Lib.hid (B5.out.trans (hb6.mono B5.out.size))
      clear hb6
      go_wp2_with fail
      refine (HNM.out _).mono ?_
      rintro e w7 ⟨rfl, hb7⟩
      have B7 := Lib.hid (B6.out.trans (hb7.mono B6.out.size))
      clear hb7
      go_wp2_with fail
      refine (HRN.out _).mono ?_
      rintro e w8 ⟨rfl, rfl⟩
      go_wp2_with fail
      refine (HJ.out S _ w7 (fun k hk => by have := HS.out k hk; have := B7.out.size; omega) (H.out.kept (fun k hk => ⟨hk, B7.out.block k (HS.out k hk)⟩))).mono ?_
      rintro e w9 ⟨rfl, hb9⟩
      have B9 := Lib.hid (B7.out.trans (hb9.mono B7.out.size))
      clear hb9
      go_wp2_with fail
      refine (HRJ.out S _ w9 (H.out.kept (fun k hk => ⟨hk, B9.out.block k (HS.out k hk)⟩))).mono ?_
      rintro e w10 ⟨rfl, rfl⟩
      go_wp2_with fail
      refine (HPA.out _).mono ?_
      rintro e w11 ⟨rfl, rfl⟩
      go_wp2_with fail
      refine (HRP.out _).mono ?_
      rintro e w12 ⟨rfl, hb12⟩
      have B12 := Lib.hid (B9.out.trans (hb12.mono B9.out.size))
      clear hb12
      go_wp2_with fail
      refine (HUN.out _).mono ?_
      rintro e w13 ⟨rfl, rfl⟩
      go_wp2_with fail
      refine (HRU.out _).mono ?_
      rintro e w14 ⟨rfl, rfl⟩
      go_wp2_with fail
      refine (HCM.out _).mono ?_
      rintro e w15 ⟨rfl, n15, rfl⟩
      have B15 := Lib.hid (B12.out.trans (drewn w.heap.size w12 n15))
      generalize w12.drewN n15 = w15 at *
      go_wp2_with fail
      refine (HRM.out _).mono ?_
      rintro e w16 ⟨rfl, hb16⟩
      have B16 := Lib.hid (B15.out.trans (hb16.mono B15.out.size))
      clear hb16
      go_wp2_with fail
      go_ret
      exact ⟨rfl, B16.out⟩
end Go.Proofs.YtplbcncbljcfmaaDoor
