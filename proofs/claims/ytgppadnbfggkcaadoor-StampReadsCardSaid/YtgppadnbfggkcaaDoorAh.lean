/- The reference's Parse, texts with a sign whose power has one. -/
import Derived.Test.YtgppadnbfggkcaaDoorAd
import Derived.Deep.Cut
namespace Go.Proofs.YtgppadnbfggkcaaDoor
open Go.RowKit

set_option maxRecDepth 100000 in
set_option maxHeartbeats 4000000 in
theorem rparse_minus_S (s : ByteArray) (h0 : 0 < s.size) (e0 : (s.toList == []) = false) (e45 : ((s[0].toNat : Int) == 45) = true) (e1 : (s.toList == [110, 97, 110]) = false)
    (e2 : ((s.extract 1 s.size).toList == [105, 110, 102]) = false) (e3 : ((s.extract 1 s.size).toList == [48]) = false) (hs : s.size ≤ 281474976710656)
    (l q : List UInt8) (hu : (s.extract 1 s.size).data.toList = l ++ 112 :: q) (hl : ∀ c ∈ l, c ≠ 112) (hq : q.head? = some 45) (w : World) :
    Calls Tryd.prog 18 #[.string s] w fun e w' => RefGives ((refMid l q).map fun r => 9223372036854775808 + r) e ∧ w = w' := by
  have h27 := fb27
  obtain ⟨h1, h2, h3, h4⟩ := parts_of hu hl
  have hus : (s.extract 1 s.size).size ≤ 281474976710656 := by simp [ByteArray.size_extract]; omega
  have HX : Hid (refMid l q = (refDig l 16).bind fun m => (powN q).bind fun p => refBits m p) := Lib.hid rfl
  have HQ : Hid (powN q = (refDig q.tail 4).bind fun p => if p = 0 then none else some (-(p : Int))) := Lib.hid (by unfold powN; rw [if_pos hq])
  generalize refMid l q = x at *
  have H2 := Lib.hid h2
  have H3 := Lib.hid h3
  have H4 := Lib.hid h4
  obtain ⟨r1, r2, r3, r4⟩ := rest_minus h2.2 hq
  have R4 := Lib.hid r4
  clear r4
  have hz : l.length + 1 < (s.extract 1 s.size).size := by
    have : q.length ≠ 0 := by
      intro h
      rw [List.length_eq_zero_iff.1 h] at hq; cases hq
    omega
  clear hu hl hq h1 h2 h3 h4
  go_enter Tryd.func18, Tryd.ntmps18
  go_wp2_with fail
  clear e0 e1 e2 e3 e45
  generalize s.extract 1 s.size = u at *
  go_loop [6, 7] (fun a i => ∃ k : Nat, (k ≤ l.length ∧ a = .int .i64 (-1) ∧ i = .int .i64 k) ∨ (k = l.length + 1 ∧ a = .int .i64 l.length ∧ i = .int .i64 k)) (fun _ i => l.length + 1 - (intOf i).toNat)
  case atStart => exact ⟨0, Or.inl ⟨Nat.zero_le _, rfl, rfl⟩⟩
  case round =>
    obtain ⟨k, ⟨hk, rfl, rfl⟩ | ⟨hk, rfl, rfl⟩⟩ := hrel
    · by_cases hlt : k < l.length
      · have hb := H3.out k hlt (by omega)
        go_wp2_with fail
        go_round
        case rel => exact ⟨k + 1, Or.inl ⟨by omega, by go_num, by go_num⟩⟩
        case measure => simp [intOf]; omega
      · have hkl : k = l.length := by omega
        subst hkl
        have hb := H4.out (by omega)
        go_wp2_with fail
        go_round
        case rel => exact ⟨l.length + 1, Or.inr ⟨rfl, by go_num, by go_num⟩⟩
        case measure => simp [intOf]
    · subst hk
      go_wp2_with fail
      have HD := Lib.hid (rdig16 (u.extract 0 l.length))
      rw [H2.out.1] at HD
      refine (HD.out _).mono ?_
      rintro e w' ⟨hg, rfl⟩
      clear HD
      cases hm : refDig l 16 with
      | none =>
        rw [hm] at hg HX
        have hg2 : e = .returned (.tuple #[.int .u64 0, .bool false]) := hg
        subst hg2
        clear hg hm
        go_upto_region 22 with fail
        generalize u.extract (l.length + 1) u.size = uq at *
        clear H2 H3 H4
        have HD2 := Lib.hid (rdig4 (uq.extract 1 uq.size))
        rw [R4.out] at HD2
        go_wp2_with fail
        refine (HD2.out _).mono ?_
        rintro e w' ⟨hg, rfl⟩
        have HX2 : Hid (x = none) := Lib.hid HX.out
        clear HX HQ HD2
        cases hp : refDig q.tail 4 with
        | none =>
          rw [hp] at hg
          have hg2 : e = .returned (.tuple #[.int .u64 0, .bool false]) := hg
          subst hg2
          clear hg hp
          go_wp2_with fail
          go_ret2
          refine ⟨?_, rfl⟩
          rw [HX2.out]; rfl
        | some p =>
          rw [hp] at hg
          have hg2 : e = .returned (.tuple #[.int .u64 p, .bool true]) := hg
          subst hg2
          clear hg hp
          go_wp2_with fail
          go_ret2
          refine ⟨?_, rfl⟩
          rw [HX2.out]; rfl
      | some m =>
        rw [hm] at hg HX
        have hg2 : e = .returned (.tuple #[.int .u64 m, .bool true]) := hg
        subst hg2
        clear hg hm
        go_upto_region 22 with fail
        generalize u.extract (l.length + 1) u.size = uq at *
        clear H2 H3 H4
        have HD2 := Lib.hid (rdig4 (uq.extract 1 uq.size))
        rw [R4.out] at HD2
        go_wp2_with fail
        refine (HD2.out _).mono ?_
        rintro e w' ⟨hg, rfl⟩
        clear HD2
        cases hp : refDig q.tail 4 with
        | none =>
          rw [hp] at hg HQ
          have HX2 : Hid (x = none) := Lib.hid (by rw [HX.out, HQ.out]; rfl)
          have hg2 : e = .returned (.tuple #[.int .u64 0, .bool false]) := hg
          subst hg2
          clear hg hp HX HQ
          go_wp2_with fail
          go_ret2
          refine ⟨?_, rfl⟩
          rw [HX2.out]; rfl
        | some p =>
          rw [hp] at hg HQ
          have hpl : p < 10000 := (dig_back hp).2.1
          have hg2 : e = .returned (.tuple #[.int .u64 p, .bool true]) := hg
          subst hg2
          clear hg hp
          by_cases hp0 : p = 0
          · have HX2 : Hid (x = none) := Lib.hid (by rw [HX.out, HQ.out, hp0]; rfl)
            have hp1 : ((p : Int) == 0) = true := by rw [hp0]; rfl
            clear HX HQ hp0
            go_wp2_with fail
            go_ret2
            refine ⟨?_, rfl⟩
            rw [HX2.out]; rfl
          · have HX2 : Hid (x = refBits m (-(p : Int))) := Lib.hid (by rw [HX.out, HQ.out]; simp only [Option.bind_some]; rw [if_neg hp0]; rfl)
            have hp1 : ((p : Int) == 0) = false := by rw [beq_eq_false_iff_ne]; omega
            clear HX HQ hp0
            go_wp2_with fail
            refine (rword_any m (-(p : Int)) _).mono ?_
            rintro e w' ⟨hg, rfl⟩
            cases hb : refBits m (-(p : Int)) with
            | none =>
              rw [hb] at hg HX2
              have hg2 : e = .returned (.tuple #[.int .u64 0, .bool false]) := hg
              subst hg2
              clear hg hb
              go_wp2_with fail
              go_ret2
              refine ⟨?_, rfl⟩
              rw [HX2.out]; rfl
            | some b =>
              have hbl := (bits_back hb).2.1
              rw [hb] at hg HX2
              have hg2 : e = .returned (.tuple #[.int .u64 b, .bool true]) := hg
              subst hg2
              have HB := Lib.hid hbl
              clear hg hb hbl
              go_wp2_with fail
              go_ret2
              refine ⟨?_, rfl⟩
              rw [HX2.out]
              refine ret_fi ?_
              have := HB.out
              show _ = 9223372036854775808 + b
              rw [IntKind.wrap_u64]; omega
end Go.Proofs.YtgppadnbfggkcaaDoor
