/- The reference's Parse, texts without a sign. -/
import Derived.Test.YtgppadnbfggkcaaDoorAd
import Derived.Deep.Cut
namespace Go.Proofs.YtgppadnbfggkcaaDoor
open Go.RowKit

set_option maxRecDepth 100000 in
set_option maxHeartbeats 4000000 in
theorem rparse_inf_N (s : ByteArray) (h0 : 0 < s.size) (e0 : (s.toList == []) = false) (e45 : ((s[0].toNat : Int) == 45) = false) (e1 : (s.toList == [110, 97, 110]) = false)
    (e2 : (s.toList == [105, 110, 102]) = true) (w : World) :
    Calls Tryd.prog 18 #[.string s] w fun e w' => RefGives (some 9218868437227405312) e ∧ w = w' := by
  have h27 := fb27
  go_enter Tryd.func18, Tryd.ntmps18
  go_wp2_with fail
  go_ret2
  exact ⟨rfl, rfl⟩
set_option maxRecDepth 100000 in
set_option maxHeartbeats 4000000 in
theorem rparse_nought_N (s : ByteArray) (h0 : 0 < s.size) (e0 : (s.toList == []) = false) (e45 : ((s[0].toNat : Int) == 45) = false) (e1 : (s.toList == [110, 97, 110]) = false)
    (e2 : (s.toList == [105, 110, 102]) = false) (e3 : (s.toList == [48]) = true) (w : World) :
    Calls Tryd.prog 18 #[.string s] w fun e w' => RefGives (some 0) e ∧ w = w' := by
  have h27 := fb27
  go_enter Tryd.func18, Tryd.ntmps18
  go_wp2_with fail
  go_ret2
  exact ⟨rfl, rfl⟩
set_option maxRecDepth 100000 in
set_option maxHeartbeats 4000000 in
theorem rparse_miss_N (s : ByteArray) (h0 : 0 < s.size) (e0 : (s.toList == []) = false) (e45 : ((s[0].toNat : Int) == 45) = false) (e1 : (s.toList == [110, 97, 110]) = false)
    (e2 : (s.toList == [105, 110, 102]) = false) (e3 : (s.toList == [48]) = false) (hs : s.size ≤ 281474976710656)
    (hp : ∀ k (h : k < s.size), ((s[k].toNat : Int) == 112) = false) (w : World) :
    Calls Tryd.prog 18 #[.string s] w fun e w' => RefGives none e ∧ w = w' := by
  have hus : s.size ≤ 281474976710656 := hs
  have HP := Lib.hid hp
  clear hp
  go_enter Tryd.func18, Tryd.ntmps18
  go_wp2_with fail
  clear e0 e1 e2 e3 e45
  go_loop [6, 7] (fun a i => ∃ k : Nat, k ≤ s.size ∧ a = .int .i64 (-1) ∧ i = .int .i64 k) (fun _ i => s.size - (intOf i).toNat)
  case atStart => exact ⟨0, Nat.zero_le _, rfl, rfl⟩
  case round =>
    obtain ⟨k, hk, rfl, rfl⟩ := hrel
    by_cases hlt : k < s.size
    · have hb := HP.out k hlt
      go_wp2_with fail
      go_round
      case rel => exact ⟨k + 1, by omega, by go_num, by go_num⟩
      case measure => simp [intOf]; omega
    · go_wp2_with fail
      go_ret2
      exact ⟨rfl, rfl⟩
set_option maxRecDepth 100000 in
set_option maxHeartbeats 4000000 in
theorem rparse_bare_N (s : ByteArray) (h0 : 0 < s.size) (e0 : (s.toList == []) = false) (e45 : ((s[0].toNat : Int) == 45) = false) (e1 : (s.toList == [110, 97, 110]) = false)
    (e2 : (s.toList == [105, 110, 102]) = false) (e3 : (s.toList == [48]) = false) (hs : s.size ≤ 281474976710656)
    (l q : List UInt8) (hu : s.data.toList = l ++ 112 :: q) (hl : ∀ c ∈ l, c ≠ 112) (hq : q = []) (w : World) :
    Calls Tryd.prog 18 #[.string s] w fun e w' => RefGives ((refMid l q).map fun r => 0 + r) e ∧ w = w' := by
  have h27 := fb27
  obtain ⟨h1, h2, h3, h4⟩ := parts_of hu hl
  have hus : s.size ≤ 281474976710656 := hs
  have HX : Hid (refMid l q = (refDig l 16).bind fun m => (powN q).bind fun p => refBits m p) := Lib.hid rfl
  have HX2 : Hid (refMid l q = none) := Lib.hid (by rw [hq]; unfold refMid; cases refDig l 16 <;> rfl)
  generalize refMid l q = x at *
  have H2 := Lib.hid h2
  have H3 := Lib.hid h3
  have H4 := Lib.hid h4
  clear HX
  have r1 : ((s.extract (l.length + 1) s.size).toList == []) = true := by rw [Lib.toList_data, h2.2, hq]; rfl
  have HDQ : Hid (refDig q 4 = none) := Lib.hid (by rw [hq]; rfl)
  have hz : s.size ≤ l.length + 1 := by rw [h1, hq]; simp
  have hz2 : l.length < s.size := by omega
  clear hu hl hq h1 h2 h3 h4
  go_enter Tryd.func18, Tryd.ntmps18
  go_wp2_with fail
  clear e0 e1 e2 e3 e45
  go_loop [6, 7] (fun a i => ∃ k : Nat, (k ≤ l.length ∧ a = .int .i64 (-1) ∧ i = .int .i64 k) ∨ (k = l.length + 1 ∧ a = .int .i64 l.length ∧ i = .int .i64 k)) (fun _ i => l.length + 1 - (intOf i).toNat)
  case atStart => exact ⟨0, Or.inl ⟨Nat.zero_le _, rfl, rfl⟩⟩
  case round =>
    obtain ⟨k, ⟨hk, rfl, rfl⟩ | ⟨hk, rfl, rfl⟩⟩ := hrel
    · by_cases hlt : k < l.length
      · have hb := H3.out k hlt (by omega)
        go_wp2_with fail
        go_round
        case rel => exact ⟨k + 1, Or.inl ⟨by omega, by go_num, by go_num⟩⟩
        case measure => simp [intOf]; omega
      · have hkl : k = l.length := by omega
        subst hkl
        have hb := H4.out (by omega)
        go_wp2_with fail
        go_round
        case rel => exact ⟨l.length + 1, Or.inr ⟨rfl, by go_num, by go_num⟩⟩
        case measure => simp [intOf]
    · subst hk
      go_wp2_with fail
      have HD := Lib.hid (rdig16 (s.extract 0 l.length))
      rw [H2.out.1] at HD
      refine (HD.out _).mono ?_
      rintro e w' ⟨hg, rfl⟩
      have HD2 := Lib.hid (rdig4 (s.extract (l.length + 1) s.size))
      rw [H2.out.2, HDQ.out] at HD2
      clear HD
      cases hm : refDig l 16 with
      | none =>
        rw [hm] at hg
        have hg2 : e = .returned (.tuple #[.int .u64 0, .bool false]) := hg
        subst hg2
        clear hg hm
        go_wp2_with fail
        refine (HD2.out _).mono ?_
        rintro e w' ⟨hg, rfl⟩
        have hg2 : e = .returned (.tuple #[.int .u64 0, .bool false]) := hg
        subst hg2
        clear hg HD2
        go_wp2_with fail
        go_ret2
        refine ⟨?_, rfl⟩
        rw [HX2.out]; rfl
      | some m =>
        rw [hm] at hg
        have hg2 : e = .returned (.tuple #[.int .u64 m, .bool true]) := hg
        subst hg2
        clear hg hm
        go_wp2_with fail
        refine (HD2.out _).mono ?_
        rintro e w' ⟨hg, rfl⟩
        have hg2 : e = .returned (.tuple #[.int .u64 0, .bool false]) := hg
        subst hg2
        clear hg HD2
        go_wp2_with fail
        go_ret2
        refine ⟨?_, rfl⟩
        rw [HX2.out]; rfl
set_option maxRecDepth 100000 in
set_option maxHeartbeats 4000000 in
theorem rparse_plain_N (s : ByteArray) (h0 : 0 < s.size) (e0 : (s.toList == []) = false) (e45 : ((s[0].toNat : Int) == 45) = false) (e1 : (s.toList == [110, 97, 110]) = false)
    (e2 : (s.toList == [105, 110, 102]) = false) (e3 : (s.toList == [48]) = false) (hs : s.size ≤ 281474976710656)
    (l q : List UInt8) (hu : s.data.toList = l ++ 112 :: q) (hl : ∀ c ∈ l, c ≠ 112) (hq : q ≠ [] ∧ q.head? ≠ some 45) (w : World) :
    Calls Tryd.prog 18 #[.string s] w fun e w' => RefGives ((refMid l q).map fun r => 0 + r) e ∧ w = w' := by
  have h27 := fb27
  obtain ⟨h1, h2, h3, h4⟩ := parts_of hu hl
  have hus : s.size ≤ 281474976710656 := hs
  have HX : Hid (refMid l q = (refDig l 16).bind fun m => (powN q).bind fun p => refBits m p) := Lib.hid rfl
  have HQ : Hid (powN q = (refDig q 4).map Int.ofNat) := Lib.hid (by unfold powN; rw [if_neg hq.2])
  generalize refMid l q = x at *
  have H2 := Lib.hid h2
  have H3 := Lib.hid h3
  have H4 := Lib.hid h4
  obtain ⟨r1, r2, r3⟩ := rest_plain h2.2 hq.1 hq.2
  have hz : l.length + 1 < s.size := by have : q.length ≠ 0 := fun h => hq.1 (List.length_eq_zero_iff.1 h); omega
  clear hu hl hq h1 h2 h3 h4
  go_enter Tryd.func18, Tryd.ntmps18
  go_wp2_with fail
  clear e0 e1 e2 e3 e45
  go_loop [6, 7] (fun a i => ∃ k : Nat, (k ≤ l.length ∧ a = .int .i64 (-1) ∧ i = .int .i64 k) ∨ (k = l.length + 1 ∧ a = .int .i64 l.length ∧ i = .int .i64 k)) (fun _ i => l.length + 1 - (intOf i).toNat)
  case atStart => exact ⟨0, Or.inl ⟨Nat.zero_le _, rfl, rfl⟩⟩
  case round =>
    obtain ⟨k, ⟨hk, rfl, rfl⟩ | ⟨hk, rfl, rfl⟩⟩ := hrel
    · by_cases hlt : k < l.length
      · have hb := H3.out k hlt (by omega)
        go_wp2_with fail
        go_round
        case rel => exact ⟨k + 1, Or.inl ⟨by omega, by go_num, by go_num⟩⟩
        case measure => simp [intOf]; omega
      · have hkl : k = l.length := by omega
        subst hkl
        have hb := H4.out (by omega)
        go_wp2_with fail
        go_round
        case rel => exact ⟨l.length + 1, Or.inr ⟨rfl, by go_num, by go_num⟩⟩
        case measure => simp [intOf]
    · subst hk
      go_wp2_with fail
      have HD := Lib.hid (rdig16 (s.extract 0 l.length))
      rw [H2.out.1] at HD
      refine (HD.out _).mono ?_
      rintro e w' ⟨hg, rfl⟩
      have HD2 := Lib.hid (rdig4 (s.extract (l.length + 1) s.size))
      rw [H2.out.2] at HD2
      clear HD
      cases hm : refDig l 16 with
      | none =>
        rw [hm] at hg HX
        have hg2 : e = .returned (.tuple #[.int .u64 0, .bool false]) := hg
        subst hg2
        clear hg hm
        go_wp2_with fail
        refine (HD2.out _).mono ?_
        rintro e w' ⟨hg, rfl⟩
        have HX2 : Hid (x = none) := Lib.hid HX.out
        clear HX HQ HD2
        cases hp : refDig q 4 with
        | none =>
          rw [hp] at hg
          have hg2 : e = .returned (.tuple #[.int .u64 0, .bool false]) := hg
          subst hg2
          clear hg hp
          go_wp2_with fail
          go_ret2
          refine ⟨?_, rfl⟩
          rw [HX2.out]; rfl
        | some p =>
          rw [hp] at hg
          have hg2 : e = .returned (.tuple #[.int .u64 p, .bool true]) := hg
          subst hg2
          clear hg hp
          go_wp2_with fail
          go_ret2
          refine ⟨?_, rfl⟩
          rw [HX2.out]; rfl
      | some m =>
        rw [hm] at hg HX
        have hg2 : e = .returned (.tuple #[.int .u64 m, .bool true]) := hg
        subst hg2
        clear hg hm
        go_wp2_with fail
        refine (HD2.out _).mono ?_
        rintro e w' ⟨hg, rfl⟩
        clear HD2
        cases hp : refDig q 4 with
        | none =>
          rw [hp] at hg HQ
          have HX2 : Hid (x = none) := Lib.hid (by rw [HX.out, HQ.out]; rfl)
          have hg2 : e = .returned (.tuple #[.int .u64 0, .bool false]) := hg
          subst hg2
          clear hg hp HX HQ
          go_wp2_with fail
          go_ret2
          refine ⟨?_, rfl⟩
          rw [HX2.out]; rfl
        | some p =>
          rw [hp] at hg HQ
          have hpl : p < 10000 := (dig_back hp).2.1
          have HX2 : Hid (x = refBits m p) := Lib.hid (by rw [HX.out, HQ.out]; rfl)
          have hg2 : e = .returned (.tuple #[.int .u64 p, .bool true]) := hg
          subst hg2
          clear hg hp HX HQ
          go_wp2_with fail
          refine (rword_any m p _).mono ?_
          rintro e w' ⟨hg, rfl⟩
          cases hb : refBits m p with
          | none =>
            rw [hb] at hg HX2
            have hg2 : e = .returned (.tuple #[.int .u64 0, .bool false]) := hg
            subst hg2
            clear hg hb
            go_wp2_with fail
            go_ret2
            refine ⟨?_, rfl⟩
            rw [HX2.out]; rfl
          | some b =>
            have hbl := (bits_back hb).2.1
            rw [hb] at hg HX2
            have hg2 : e = .returned (.tuple #[.int .u64 b, .bool true]) := hg
            subst hg2
            have HB := Lib.hid hbl
            clear hg hb hbl
            go_wp2_with fail
            go_ret2
            refine ⟨?_, rfl⟩
            rw [HX2.out]
            refine ret_fi ?_
            have := HB.out
            show _ = 0 + b
            rw [IntKind.wrap_u64]; omega
end Go.Proofs.YtgppadnbfggkcaaDoor
