/- Walk of the reference's Print. -/
import Derived.Test.YtgppadnbfggkcaaDoorX
namespace Go.Proofs.YtgppadnbfggkcaaDoor
open Go.RowKit

theorem rprint_nan (f : Nat) (h : nanB f = true) (w : World) :
    Calls Tryd.prog 20 #[.float .f64 f] w fun e w' => e = .returned (.string ⟨(printB f).toArray⟩) ∧ w = w' := by
  have e : printB f = [110, 97, 110] := by unfold printB; rw [if_pos h]
  rw [e]
  have hn : (FloatKind.f64.format.order f f != some .eq) = true := h
  have HB := Lib.hid (rbits_any f)
  clear e h
  generalize canonB f = x at *
  go_enter Tryd.func20, Tryd.ntmps20
  go_wp2_with fail
  refine (HB.out _).mono ?_
  rintro e w' ⟨rfl, rfl⟩
  go_wp2
  go_ret
  exact ⟨rfl, rfl⟩
set_option maxRecDepth 100000 in
set_option maxHeartbeats 1000000 in
/-- Infinity and nought. -/
theorem rprint_edge (f x y : Nat) (c : Bool) (out : List UInt8) (w : World)
    (HB : Hid (∀ w, Calls Tryd.prog 16 #[.float .f64 f] w fun e w' => e = .returned (.int .u64 x) ∧ w = w'))
    (hn : (FloatKind.f64.format.order f f != some .eq) = false) (hd : decide ((9223372036854775808 : Int) ≤ (x : Int)) = c)
    (hsub : c = true → IntKind.u64.wrap ((x : Int) - 9223372036854775808) = (y : Int)) (hxy : c = false → x = y)
    (hy : (y = 9218868437227405312 ∧ out = (if c = true then [45] else []) ++ [105, 110, 102]) ∨ (y = 0 ∧ out = (if c = true then [45] else []) ++ [48])) :
    Calls Tryd.prog 20 #[.float .f64 f] w fun e w' => e = .returned (.string ⟨out.toArray⟩) ∧ w = w' := by
  rcases hy with ⟨rfl, rfl⟩ | ⟨rfl, rfl⟩
  all_goals
    cases c with
    | true =>
      have h2 := hsub rfl
      clear hsub hxy
      rw [if_pos rfl, ← ByteArray.mk_append_mk]
      go_enter Tryd.func20, Tryd.ntmps20
      go_wp2_with fail
      refine (HB.out _).mono ?_
      rintro e w' ⟨rfl, rfl⟩
      go_wp2_with fail
      go_ret
      exact ⟨rfl, rfl⟩
    | false =>
      have h2 := hxy rfl
      subst h2
      clear hsub hxy
      rw [if_neg (by simp), ← ByteArray.mk_append_mk]
      go_enter Tryd.func20, Tryd.ntmps20
      go_wp2_with fail
      refine (HB.out _).mono ?_
      rintro e w' ⟨rfl, rfl⟩
      go_wp2_with fail
      go_ret
      exact ⟨rfl, rfl⟩
theorem odd_odd (b : Nat) (h0 : 0 < b) : oddB b % 2 = 1 := by
  obtain ⟨f0, _, fb⟩ := log_frac b h0
  obtain ⟨m, hm, hk⟩ := Lib.ctzFrom_spec 64 (fracB b) (by omega) (by omega)
  have e : Lib.ctz 64 (fracB b) = Lib.ctzFrom 64 (fracB b) := by unfold Lib.ctz; rw [if_neg f0]
  unfold oddB; rw [e]
  generalize Lib.ctzFrom 64 (fracB b) = k at *
  rw [hm, Nat.mul_div_cancel_left _ (Nat.two_pow_pos k)]; omega
theorem odd_unique {m o : Nat} : ∀ (t k : Nat), m * 2 ^ t = o * 2 ^ k → m % 2 = 1 → o % 2 = 1 → m = o ∧ t = k
  | 0, 0, h, _, _ => ⟨by simpa using h, rfl⟩
  | 0, k + 1, h, hm, _ => by rw [Nat.pow_zero, Nat.mul_one, Nat.pow_succ, ← Nat.mul_assoc] at h; omega
  | t + 1, 0, h, _, ho => by rw [Nat.pow_zero, Nat.mul_one, Nat.pow_succ, ← Nat.mul_assoc] at h; omega
  | t + 1, k + 1, h, hm, ho => by
    rw [Nat.pow_succ, ← Nat.mul_assoc, Nat.pow_succ, ← Nat.mul_assoc] at h
    obtain ⟨h1, h2⟩ := odd_unique t k (by omega) hm ho
    exact ⟨h1, by omega⟩
theorem odd_found {y m t : Nat} (h0 : 0 < y) (h : fracB y = m * 2 ^ t) (hm : m % 2 = 1) : m = oddB y ∧ placeB y + (t : Int) = powB y := by
  obtain ⟨h1, _⟩ := odd_frac y h0
  obtain ⟨h2, h3⟩ := odd_unique t (Lib.ctz 64 (fracB y)) (by rw [← h, ← h1]) hm (odd_odd y h0)
  exact ⟨h2, by unfold powB; rw [h3]⟩
/-- The last lines: the text of an odd number times a power of two. -/
def tailB (sg : List UInt8) (m : Nat) (p : Int) : List UInt8 := sg ++ Lib.decDigits m ++ 112 :: Lib.itoa p
theorem int_eq {k : IntKind} {a b : Int} (h : a = b) : Value.int k a = Value.int k b := by rw [h]
theorem t_bd {M t F : Nat} (hM : 0 < M) (h : F = M * 2 ^ t) (hF : F < 9007199254740992) : t ≤ 53 := by
  rcases Nat.lt_or_ge 53 t with h1 | h1
  · have h2 : 2 ^ 53 ≤ 2 ^ t := Nat.pow_le_pow_right (by omega) (by omega)
    have h3 := Nat.le_mul_of_pos_left (2 ^ t) hM
    omega
  · exact h1
theorem half_pow {M t : Nat} (h : M % 2 = 0) : M * 2 ^ t = M / 2 * 2 ^ (t + 1) := by
  rw [Nat.pow_succ, Nat.mul_comm (2 ^ t) 2, ← Nat.mul_assoc, show M / 2 * 2 = M by omega]
theorem tail_neg (sg : List UInt8) (M k : Nat) (h : 0 < k) : ((⟨sg.toArray⟩ : ByteArray) ++ ⟨(Lib.decDigits M).toArray⟩ ++ ⟨#[112, 45]⟩ ++ ⟨(Lib.decDigits k).toArray⟩) = ⟨(tailB sg M (-(k : Int))).toArray⟩ := by
  have e : tailB sg M (-(k : Int)) = sg ++ Lib.decDigits M ++ [112, 45] ++ Lib.decDigits k := by
    unfold tailB; rw [Lib.itoa_neg k h]; simp
  rw [e, ← ByteArray.mk_append_mk, ← ByteArray.mk_append_mk, ← ByteArray.mk_append_mk]
theorem tail_pos (sg : List UInt8) (M k : Nat) : ((⟨sg.toArray⟩ : ByteArray) ++ ⟨(Lib.decDigits M).toArray⟩ ++ ⟨#[112]⟩ ++ ⟨(Lib.decDigits k).toArray⟩) = ⟨(tailB sg M (k : Int)).toArray⟩ := by
  have e : tailB sg M (k : Int) = sg ++ Lib.decDigits M ++ [112] ++ Lib.decDigits k := by
    unfold tailB; rw [Lib.itoa_nonneg]; simp
  rw [e, ← ByteArray.mk_append_mk, ← ByteArray.mk_append_mk, ← ByteArray.mk_append_mk]
set_option maxRecDepth 100000 in
set_option maxHeartbeats 2000000 in
theorem rprint_low (f x : Nat) (w : World)
    (HB : Hid (∀ w, Calls Tryd.prog 16 #[.float .f64 f] w fun e w' => e = .returned (.int .u64 x) ∧ w = w'))
    (hn : (FloatKind.f64.format.order f f != some .eq) = false) (hd : decide ((9223372036854775808 : Int) ≤ (x : Int)) = false)
    (h0 : 0 < x) (hy : x < 9218868437227405312) (hs : x < 4503599627370496) :
    Calls Tryd.prog 20 #[.float .f64 f] w fun e w' => e = .returned (.string ⟨(tailB [] (oddB x) (powB x)).toArray⟩) ∧ w = w' := by
  have h47 : ((x : Int) / 4503599627370496 == 2047) = false := by rw [beq_eq_false_iff_ne]; omega
  have HFB := Lib.hid (log_frac x h0).2.2
  have HO := Lib.hid (fun m t (h : fracB x = m * 2 ^ t) (hm : m % 2 = 1) => odd_found h0 h hm)
  have HP := Lib.hid (powB_bd h0 hy)
  have HOL := Lib.hid (oddB_lt (b := x))
  have ef : fracB x = x := by unfold fracB; rw [if_pos hs]
  have ep : placeB x = -1074 := by unfold placeB; rw [if_pos hs]
  have hm0 : ((x : Int) % 4503599627370496 == 0) = false := by rw [beq_eq_false_iff_ne]; omega
  have hpb : -1074 ≤ placeB x ∧ placeB x ≤ 1000 := by rw [ep]; omega
  have hpl := hpb.1
  have hpu := hpb.2
  have EF := Lib.hid ef
  have EP := Lib.hid ep
  clear ef ep hpb
  go_enter Tryd.func20, Tryd.ntmps20
  go_wp2_with fail
  refine (HB.out _).mono ?_
  rintro e w' ⟨rfl, rfl⟩
  go_wp2_with fail
  go_loop [6, 7] (fun m p => ∃ (M t : Nat), m = .int .u64 M ∧ p = .int .i64 (placeB x + t) ∧ fracB x = M * 2 ^ t ∧ 0 < M) (fun m _ => (intOf m).toNat)
  case atStart =>
    refine ⟨x, 0, ?_, ?_, by rw [EF.out]; simp, h0⟩
    · exact int_eq (by omega)
    · rw [EP.out]; exact int_eq (by omega)
  case round =>
    obtain ⟨M, t, rfl, rfl, hf, hM⟩ := hrel
    have htb : t ≤ 53 := t_bd hM hf HFB.out
    have hMb : M < 9007199254740992 := by have := Nat.le_mul_of_pos_right M (Nat.two_pow_pos t); have := HFB.out; omega
    have HFR := Lib.hid hf
    clear hf
    by_cases hodd : M % 2 = 0
    · have ho : ((M : Int) % 2 == 0) = true := by rw [beq_iff_eq]; omega
      have HH := Lib.hid hodd
      clear hodd
      go_wp2_with fail
      refine ⟨⟨M / 2, t + 1, int_eq (by have := HH.out; omega), int_eq (by omega), ?_, by have := HH.out; omega⟩, by simp [intOf]; omega⟩
      rw [HFR.out, half_pow HH.out]
    · have ho : ((M : Int) % 2 == 0) = false := by rw [beq_eq_false_iff_ne]; omega
      obtain ⟨e1, e2⟩ := HO.out M t HFR.out (by omega)
      have hq1 := HP.out.1
      have hq2 := HP.out.2
      have E1 := Lib.hid e1
      clear hodd HFR
      rw [e2]
      clear e1 e2
      have HD := Lib.hid (dec_any M (by omega))
      have hl1 := dec_len M (by omega)
      by_cases hneg : powB x < 0
      · obtain ⟨k, hk⟩ : ∃ k : Nat, powB x = -(k : Int) := ⟨(powB x).natAbs, by omega⟩
        have EK := Lib.hid hk
        rw [hk] at hq1 hneg ⊢
        have hkb : k ≤ 1100 := by omega
        have HD2 := Lib.hid (dec_any k (by omega))
        have hl2 := dec_len k (by omega)
        have hk0 : 0 < k := by omega
        clear hk
        go_wp2_with fail
        refine (HD.out _).mono ?_
        rintro e w' ⟨rfl, rfl⟩
        go_wp2_with fail
        refine (HD2.out _).mono ?_
        rintro e w' ⟨rfl, rfl⟩
        go_wp2_with fail
        go_ret
        refine ⟨?_, rfl⟩
        rw [← E1.out, EK.out]
        exact ret_str (tail_neg [] M k hk0)
      · obtain ⟨k, hk⟩ : ∃ k : Nat, powB x = (k : Int) := ⟨(powB x).natAbs, by omega⟩
        have EK := Lib.hid hk
        rw [hk] at hq1 hneg ⊢
        have hkb : k ≤ 1100 := by omega
        have HD2 := Lib.hid (dec_any k (by omega))
        have hl2 := dec_len k (by omega)
        have hk0 : 0 ≤ k := by omega
        clear hk
        go_wp2_with fail
        refine (HD.out _).mono ?_
        rintro e w' ⟨rfl, rfl⟩
        go_wp2_with fail
        refine (HD2.out _).mono ?_
        rintro e w' ⟨rfl, rfl⟩
        go_wp2_with fail
        go_ret
        refine ⟨?_, rfl⟩
        rw [← E1.out, EK.out]
        exact ret_str (tail_pos [] M k)
set_option maxRecDepth 100000 in
set_option maxHeartbeats 2000000 in
theorem rprint_high (f x : Nat) (w : World)
    (HB : Hid (∀ w, Calls Tryd.prog 16 #[.float .f64 f] w fun e w' => e = .returned (.int .u64 x) ∧ w = w'))
    (hn : (FloatKind.f64.format.order f f != some .eq) = false) (hd : decide ((9223372036854775808 : Int) ≤ (x : Int)) = false)
    (h0 : 0 < x) (hy : x < 9218868437227405312) (hs : 4503599627370496 ≤ x) :
    Calls Tryd.prog 20 #[.float .f64 f] w fun e w' => e = .returned (.string ⟨(tailB [] (oddB x) (powB x)).toArray⟩) ∧ w = w' := by
  have h47 : ((x : Int) / 4503599627370496 == 2047) = false := by rw [beq_eq_false_iff_ne]; omega
  have HFB := Lib.hid (log_frac x h0).2.2
  have HO := Lib.hid (fun m t (h : fracB x = m * 2 ^ t) (hm : m % 2 = 1) => odd_found h0 h hm)
  have HP := Lib.hid (powB_bd h0 hy)
  have HOL := Lib.hid (oddB_lt (b := x))
  have ef : fracB x = x % 4503599627370496 + 4503599627370496 := by unfold fracB; rw [if_neg (by omega)]; omega
  have ep : placeB x = ((x : Int) / 4503599627370496 - 1) - 1074 := by unfold placeB; rw [if_neg (by omega)]; omega
  have hm0 : ((x : Int) % 4503599627370496 + 4503599627370496 == 0) = false := by rw [beq_eq_false_iff_ne]; omega
  have hpb : -1074 ≤ placeB x ∧ placeB x ≤ 1000 := by rw [ep]; omega
  have hpl := hpb.1
  have hpu := hpb.2
  have EF := Lib.hid ef
  have EP := Lib.hid ep
  clear ef ep hpb
  go_enter Tryd.func20, Tryd.ntmps20
  go_wp2_with fail
  refine (HB.out _).mono ?_
  rintro e w' ⟨rfl, rfl⟩
  go_wp2_with fail
  go_loop [6, 7] (fun m p => ∃ (M t : Nat), m = .int .u64 M ∧ p = .int .i64 (placeB x + t) ∧ fracB x = M * 2 ^ t ∧ 0 < M) (fun m _ => (intOf m).toNat)
  case atStart =>
    refine ⟨x % 4503599627370496 + 4503599627370496, 0, ?_, ?_, by rw [EF.out]; simp, by omega⟩
    · exact int_eq (by omega)
    · rw [EP.out]; exact int_eq (by omega)
  case round =>
    obtain ⟨M, t, rfl, rfl, hf, hM⟩ := hrel
    have htb : t ≤ 53 := t_bd hM hf HFB.out
    have hMb : M < 9007199254740992 := by have := Nat.le_mul_of_pos_right M (Nat.two_pow_pos t); have := HFB.out; omega
    have HFR := Lib.hid hf
    clear hf
    by_cases hodd : M % 2 = 0
    · have ho : ((M : Int) % 2 == 0) = true := by rw [beq_iff_eq]; omega
      have HH := Lib.hid hodd
      clear hodd
      go_wp2_with fail
      refine ⟨⟨M / 2, t + 1, int_eq (by have := HH.out; omega), int_eq (by omega), ?_, by have := HH.out; omega⟩, by simp [intOf]; omega⟩
      rw [HFR.out, half_pow HH.out]
    · have ho : ((M : Int) % 2 == 0) = false := by rw [beq_eq_false_iff_ne]; omega
      obtain ⟨e1, e2⟩ := HO.out M t HFR.out (by omega)
      have hq1 := HP.out.1
      have hq2 := HP.out.2
      have E1 := Lib.hid e1
      clear hodd HFR
      rw [e2]
      clear e1 e2
      have HD := Lib.hid (dec_any M (by omega))
      have hl1 := dec_len M (by omega)
      by_cases hneg : powB x < 0
      · obtain ⟨k, hk⟩ : ∃ k : Nat, powB x = -(k : Int) := ⟨(powB x).natAbs, by omega⟩
        have EK := Lib.hid hk
        rw [hk] at hq1 hneg ⊢
        have hkb : k ≤ 1100 := by omega
        have HD2 := Lib.hid (dec_any k (by omega))
        have hl2 := dec_len k (by omega)
        have hk0 : 0 < k := by omega
        clear hk
        go_wp2_with fail
        refine (HD.out _).mono ?_
        rintro e w' ⟨rfl, rfl⟩
        go_wp2_with fail
        refine (HD2.out _).mono ?_
        rintro e w' ⟨rfl, rfl⟩
        go_wp2_with fail
        go_ret
        refine ⟨?_, rfl⟩
        rw [← E1.out, EK.out]
        exact ret_str (tail_neg [] M k hk0)
      · obtain ⟨k, hk⟩ : ∃ k : Nat, powB x = (k : Int) := ⟨(powB x).natAbs, by omega⟩
        have EK := Lib.hid hk
        rw [hk] at hq1 hneg ⊢
        have hkb : k ≤ 1100 := by omega
        have HD2 := Lib.hid (dec_any k (by omega))
        have hl2 := dec_len k (by omega)
        have hk0 : 0 ≤ k := by omega
        clear hk
        go_wp2_with fail
        refine (HD.out _).mono ?_
        rintro e w' ⟨rfl, rfl⟩
        go_wp2_with fail
        refine (HD2.out _).mono ?_
        rintro e w' ⟨rfl, rfl⟩
        go_wp2_with fail
        go_ret
        refine ⟨?_, rfl⟩
        rw [← E1.out, EK.out]
        exact ret_str (tail_pos [] M k)
set_option maxRecDepth 100000 in
set_option maxHeartbeats 2000000 in
theorem rprint_nlow (f x y : Nat) (w : World)
    (HB : Hid (∀ w, Calls Tryd.prog 16 #[.float .f64 f] w fun e w' => e = .returned (.int .u64 x) ∧ w = w'))
    (hn : (FloatKind.f64.format.order f f != some .eq) = false) (hd : decide ((9223372036854775808 : Int) ≤ (x : Int)) = true)
    (hsub : IntKind.u64.wrap ((x : Int) - 9223372036854775808) = (y : Int))
    (h0 : 0 < y) (hy : y < 9218868437227405312) (hs : y < 4503599627370496) :
    Calls Tryd.prog 20 #[.float .f64 f] w fun e w' => e = .returned (.string ⟨(tailB [45] (oddB y) (powB y)).toArray⟩) ∧ w = w' := by
  have h47 : ((y : Int) / 4503599627370496 == 2047) = false := by rw [beq_eq_false_iff_ne]; omega
  have HFB := Lib.hid (log_frac y h0).2.2
  have HO := Lib.hid (fun m t (h : fracB y = m * 2 ^ t) (hm : m % 2 = 1) => odd_found h0 h hm)
  have HP := Lib.hid (powB_bd h0 hy)
  have HOL := Lib.hid (oddB_lt (b := y))
  have ef : fracB y = y := by unfold fracB; rw [if_pos hs]
  have ep : placeB y = -1074 := by unfold placeB; rw [if_pos hs]
  have hm0 : ((y : Int) % 4503599627370496 == 0) = false := by rw [beq_eq_false_iff_ne]; omega
  have hpb : -1074 ≤ placeB y ∧ placeB y ≤ 1000 := by rw [ep]; omega
  have hpl := hpb.1
  have hpu := hpb.2
  have EF := Lib.hid ef
  have EP := Lib.hid ep
  clear ef ep hpb
  go_enter Tryd.func20, Tryd.ntmps20
  go_wp2_with fail
  refine (HB.out _).mono ?_
  rintro e w' ⟨rfl, rfl⟩
  go_wp2_with fail
  go_loop [6, 7] (fun m p => ∃ (M t : Nat), m = .int .u64 M ∧ p = .int .i64 (placeB y + t) ∧ fracB y = M * 2 ^ t ∧ 0 < M) (fun m _ => (intOf m).toNat)
  case atStart =>
    refine ⟨y, 0, ?_, ?_, by rw [EF.out]; simp, h0⟩
    · exact int_eq (by omega)
    · rw [EP.out]; exact int_eq (by omega)
  case round =>
    obtain ⟨M, t, rfl, rfl, hf, hM⟩ := hrel
    have htb : t ≤ 53 := t_bd hM hf HFB.out
    have hMb : M < 9007199254740992 := by have := Nat.le_mul_of_pos_right M (Nat.two_pow_pos t); have := HFB.out; omega
    have HFR := Lib.hid hf
    clear hf
    by_cases hodd : M % 2 = 0
    · have ho : ((M : Int) % 2 == 0) = true := by rw [beq_iff_eq]; omega
      have HH := Lib.hid hodd
      clear hodd
      go_wp2_with fail
      refine ⟨⟨M / 2, t + 1, int_eq (by have := HH.out; omega), int_eq (by omega), ?_, by have := HH.out; omega⟩, by simp [intOf]; omega⟩
      rw [HFR.out, half_pow HH.out]
    · have ho : ((M : Int) % 2 == 0) = false := by rw [beq_eq_false_iff_ne]; omega
      obtain ⟨e1, e2⟩ := HO.out M t HFR.out (by omega)
      have hq1 := HP.out.1
      have hq2 := HP.out.2
      have E1 := Lib.hid e1
      clear hodd HFR
      rw [e2]
      clear e1 e2
      have HD := Lib.hid (dec_any M (by omega))
      have hl1 := dec_len M (by omega)
      by_cases hneg : powB y < 0
      · obtain ⟨k, hk⟩ : ∃ k : Nat, powB y = -(k : Int) := ⟨(powB y).natAbs, by omega⟩
        have EK := Lib.hid hk
        rw [hk] at hq1 hneg ⊢
        have hkb : k ≤ 1100 := by omega
        have HD2 := Lib.hid (dec_any k (by omega))
        have hl2 := dec_len k (by omega)
        have hk0 : 0 < k := by omega
        clear hk
        go_wp2_with fail
        refine (HD.out _).mono ?_
        rintro e w' ⟨rfl, rfl⟩
        go_wp2_with fail
        refine (HD2.out _).mono ?_
        rintro e w' ⟨rfl, rfl⟩
        go_wp2_with fail
        go_ret
        refine ⟨?_, rfl⟩
        rw [← E1.out, EK.out]
        exact ret_str (tail_neg [45] M k hk0)
      · obtain ⟨k, hk⟩ : ∃ k : Nat, powB y = (k : Int) := ⟨(powB y).natAbs, by omega⟩
        have EK := Lib.hid hk
        rw [hk] at hq1 hneg ⊢
        have hkb : k ≤ 1100 := by omega
        have HD2 := Lib.hid (dec_any k (by omega))
        have hl2 := dec_len k (by omega)
        have hk0 : 0 ≤ k := by omega
        clear hk
        go_wp2_with fail
        refine (HD.out _).mono ?_
        rintro e w' ⟨rfl, rfl⟩
        go_wp2_with fail
        refine (HD2.out _).mono ?_
        rintro e w' ⟨rfl, rfl⟩
        go_wp2_with fail
        go_ret
        refine ⟨?_, rfl⟩
        rw [← E1.out, EK.out]
        exact ret_str (tail_pos [45] M k)
set_option maxRecDepth 100000 in
set_option maxHeartbeats 2000000 in
theorem rprint_nhigh (f x y : Nat) (w : World)
    (HB : Hid (∀ w, Calls Tryd.prog 16 #[.float .f64 f] w fun e w' => e = .returned (.int .u64 x) ∧ w = w'))
    (hn : (FloatKind.f64.format.order f f != some .eq) = false) (hd : decide ((9223372036854775808 : Int) ≤ (x : Int)) = true)
    (hsub : IntKind.u64.wrap ((x : Int) - 9223372036854775808) = (y : Int))
    (h0 : 0 < y) (hy : y < 9218868437227405312) (hs : 4503599627370496 ≤ y) :
    Calls Tryd.prog 20 #[.float .f64 f] w fun e w' => e = .returned (.string ⟨(tailB [45] (oddB y) (powB y)).toArray⟩) ∧ w = w' := by
  have h47 : ((y : Int) / 4503599627370496 == 2047) = false := by rw [beq_eq_false_iff_ne]; omega
  have HFB := Lib.hid (log_frac y h0).2.2
  have HO := Lib.hid (fun m t (h : fracB y = m * 2 ^ t) (hm : m % 2 = 1) => odd_found h0 h hm)
  have HP := Lib.hid (powB_bd h0 hy)
  have HOL := Lib.hid (oddB_lt (b := y))
  have ef : fracB y = y % 4503599627370496 + 4503599627370496 := by unfold fracB; rw [if_neg (by omega)]; omega
  have ep : placeB y = ((y : Int) / 4503599627370496 - 1) - 1074 := by unfold placeB; rw [if_neg (by omega)]; omega
  have hm0 : ((y : Int) % 4503599627370496 + 4503599627370496 == 0) = false := by rw [beq_eq_false_iff_ne]; omega
  have hpb : -1074 ≤ placeB y ∧ placeB y ≤ 1000 := by rw [ep]; omega
  have hpl := hpb.1
  have hpu := hpb.2
  have EF := Lib.hid ef
  have EP := Lib.hid ep
  clear ef ep hpb
  go_enter Tryd.func20, Tryd.ntmps20
  go_wp2_with fail
  refine (HB.out _).mono ?_
  rintro e w' ⟨rfl, rfl⟩
  go_wp2_with fail
  go_loop [6, 7] (fun m p => ∃ (M t : Nat), m = .int .u64 M ∧ p = .int .i64 (placeB y + t) ∧ fracB y = M * 2 ^ t ∧ 0 < M) (fun m _ => (intOf m).toNat)
  case atStart =>
    refine ⟨y % 4503599627370496 + 4503599627370496, 0, ?_, ?_, by rw [EF.out]; simp, by omega⟩
    · exact int_eq (by omega)
    · rw [EP.out]; exact int_eq (by omega)
  case round =>
    obtain ⟨M, t, rfl, rfl, hf, hM⟩ := hrel
    have htb : t ≤ 53 := t_bd hM hf HFB.out
    have hMb : M < 9007199254740992 := by have := Nat.le_mul_of_pos_right M (Nat.two_pow_pos t); have := HFB.out; omega
    have HFR := Lib.hid hf
    clear hf
    by_cases hodd : M % 2 = 0
    · have ho : ((M : Int) % 2 == 0) = true := by rw [beq_iff_eq]; omega
      have HH := Lib.hid hodd
      clear hodd
      go_wp2_with fail
      refine ⟨⟨M / 2, t + 1, int_eq (by have := HH.out; omega), int_eq (by omega), ?_, by have := HH.out; omega⟩, by simp [intOf]; omega⟩
      rw [HFR.out, half_pow HH.out]
    · have ho : ((M : Int) % 2 == 0) = false := by rw [beq_eq_false_iff_ne]; omega
      obtain ⟨e1, e2⟩ := HO.out M t HFR.out (by omega)
      have hq1 := HP.out.1
      have hq2 := HP.out.2
      have E1 := Lib.hid e1
      clear hodd HFR
      rw [e2]
      clear e1 e2
      have HD := Lib.hid (dec_any M (by omega))
      have hl1 := dec_len M (by omega)
      by_cases hneg : powB y < 0
      · obtain ⟨k, hk⟩ : ∃ k : Nat, powB y = -(k : Int) := ⟨(powB y).natAbs, by omega⟩
        have EK := Lib.hid hk
        rw [hk] at hq1 hneg ⊢
        have hkb : k ≤ 1100 := by omega
        have HD2 := Lib.hid (dec_any k (by omega))
        have hl2 := dec_len k (by omega)
        have hk0 : 0 < k := by omega
        clear hk
        go_wp2_with fail
        refine (HD.out _).mono ?_
        rintro e w' ⟨rfl, rfl⟩
        go_wp2_with fail
        refine (HD2.out _).mono ?_
        rintro e w' ⟨rfl, rfl⟩
        go_wp2_with fail
        go_ret
        refine ⟨?_, rfl⟩
        rw [← E1.out, EK.out]
        exact ret_str (tail_neg [45] M k hk0)
      · obtain ⟨k, hk⟩ : ∃ k : Nat, powB y = (k : Int) := ⟨(powB y).natAbs, by omega⟩
        have EK := Lib.hid hk
        rw [hk] at hq1 hneg ⊢
        have hkb : k ≤ 1100 := by omega
        have HD2 := Lib.hid (dec_any k (by omega))
        have hl2 := dec_len k (by omega)
        have hk0 : 0 ≤ k := by omega
        clear hk
        go_wp2_with fail
        refine (HD.out _).mono ?_
        rintro e w' ⟨rfl, rfl⟩
        go_wp2_with fail
        refine (HD2.out _).mono ?_
        rintro e w' ⟨rfl, rfl⟩
        go_wp2_with fail
        go_ret
        refine ⟨?_, rfl⟩
        rw [← E1.out, EK.out]
        exact ret_str (tail_pos [45] M k)
theorem tail_plain (sg : List UInt8) {y : Nat} (h : 0 < y) : tailB sg (oddB y) (powB y) = sg ++ plainB y := by
  unfold tailB plainB; rw [if_neg (by omega), List.append_assoc]
theorem rprint_any (f : Nat) (hf : f < 18446744073709551616) (w : World) :
    Calls Tryd.prog 20 #[.float .f64 f] w fun e w' => e = .returned (.string ⟨(printB f).toArray⟩) ∧ w = w' := by
  cases h1 : nanB f with
  | true => exact rprint_nan f h1 w
  | false =>
    have hc := canonB_eq f h1
    have HB := Lib.hid (rbits_any f)
    rw [hc] at HB
    have hn : (FloatKind.f64.format.order f f != some .eq) = false := h1
    have hnan : f % 9223372036854775808 ≤ 9218868437227405312 := by rw [nanB_eq f hf] at h1; simp at h1; omega
    cases ht : topB f with
    | false =>
      have hd := top_hd ht
      have hlow : f < 9223372036854775808 := by unfold topB at ht; simpa using ht
      have i2 : infB (negB f) = false := by
        rw [infB_eq (neg_lt hf)]; unfold negB; rw [if_neg (by rw [ht]; decide)]; simp
      by_cases hi : f = 9218868437227405312
      · have i1 : infB f = true := by rw [infB_eq hf]; simp [hi]
        have e : printB f = [105, 110, 102] := by unfold printB; rw [h1, i1]; rfl
        rw [e]
        exact rprint_edge f f f false _ w HB hn hd (by simp) (fun _ => rfl) (Or.inl ⟨hi, rfl⟩)
      · have i1 : infB f = false := by rw [infB_eq hf]; simp [hi]
        have e : printB f = plainB f := by unfold printB; rw [h1, i1, i2, ht]; rfl
        rw [e]
        by_cases h0 : f = 0
        · have e0 : plainB f = [48] := by rw [h0]; rfl
          rw [e0]
          exact rprint_edge f f f false _ w HB hn hd (by simp) (fun _ => rfl) (Or.inr ⟨h0, rfl⟩)
        · have et := tail_plain [] (y := f) (by omega)
          rw [List.nil_append] at et
          rw [← et]
          by_cases hs : f < 4503599627370496
          · exact rprint_low f f w HB hn hd (by omega) (by omega) hs
          · exact rprint_high f f w HB hn hd (by omega) (by omega) (by omega)
    | true =>
      have hd := top_hd ht
      have hup : 9223372036854775808 ≤ f := by unfold topB at ht; simpa using ht
      have ey : negB f = f - 9223372036854775808 := by unfold negB; rw [if_pos ht]
      have hsub : IntKind.u64.wrap ((f : Int) - 9223372036854775808) = ((negB f : Nat) : Int) := by rw [IntKind.wrap_u64, ey]; omega
      have i1 : infB f = false := by rw [infB_eq hf]; simp; omega
      have hyl : negB f ≤ 9218868437227405312 := by omega
      have e0 : infB (negB f) = true ∨ infB (negB f) = false := by cases infB (negB f) <;> simp
      have ei := infB_eq (b := negB f) (neg_lt hf)
      by_cases hi : negB f = 9218868437227405312
      · have i2 : infB (negB f) = true := by rw [ei]; simp [hi]
        have e : printB f = [45, 105, 110, 102] := by unfold printB; rw [h1, i1, i2]; rfl
        rw [e]
        exact rprint_edge f f (negB f) true _ w HB hn hd (fun _ => hsub) (by simp) (Or.inl ⟨hi, rfl⟩)
      · have i2 : infB (negB f) = false := by rw [ei]; simp [hi]
        have e : printB f = [45] ++ plainB (negB f) := by unfold printB; rw [h1, i1, i2, ht]; rfl
        rw [e]
        by_cases h0 : negB f = 0
        · have e0 : plainB (negB f) = [48] := by rw [h0]; rfl
          rw [e0]
          exact rprint_edge f f (negB f) true _ w HB hn hd (fun _ => hsub) (by simp) (Or.inr ⟨h0, rfl⟩)
        · rw [← tail_plain [45] (y := negB f) (by omega)]
          by_cases hs : negB f < 4503599627370496
          · exact rprint_nlow f f (negB f) w HB hn hd hsub (by omega) (by omega) hs
          · exact rprint_nhigh f f (negB f) w HB hn hd hsub (by omega) (by omega) (by omega)
end Go.Proofs.YtgppadnbfggkcaaDoor
