/- Contracts: printPlain, Print; what the call's world must hold. -/
import Derived.Test.YtgppadnbfggkcaaDoorB
namespace Go.Proofs.YtgppadnbfggkcaaDoor
open Go.RowKit Go.Shelf Go.Sort Go.Lib

theorem ret_str {a b : ByteArray} (h : a = b) : Ending.returned (.string a) = .returned (.string b) := by rw [h]
/-- What the package variables hold, as far as the texts look at them. -/
structure Env (w : World) : Prop where
  pow : Lib.TabIs Tryd.prog w "internal/strconv.uint64pow10" .u64 Lib.pow10Tab
  ctz : Go.Proofs.TabAt 1 Lib.deBruijn64tab w
  syn : ∃ tp p, w.cell? ⟨4, 0, none⟩ = some (.iface tp p)
  rng : ∃ tp p, w.cell? ⟨5, 0, none⟩ = some (.iface tp p)
  big : 7 ≤ w.heap.size
theorem Env.below {w w' : World} (h : Env w) {B : Nat} (hB : 7 ≤ B) (hb : Below B w w') : Env w' where
  pow := var?_below hb (g := 2) (by kernel_rfl) (by omega) h.pow
  ctz := fun j hj => by rw [hb.cell (p := ⟨1, j, none⟩) (by show 1 < B; omega)]; exact h.ctz j hj
  syn := by obtain ⟨t, p, e⟩ := h.syn; exact ⟨t, p, by rw [hb.cell (p := ⟨4, 0, none⟩) (by show 4 < B; omega)]; exact e⟩
  rng := by obtain ⟨t, p, e⟩ := h.rng; exact ⟨t, p, by rw [hb.cell (p := ⟨5, 0, none⟩) (by show 5 < B; omega)]; exact e⟩
  big := Nat.le_trans h.big hb.size

theorem zero_cmp {b : Nat} (hb : b < 9223372036854775808) : (FloatKind.f64.format.order b 0 == some .eq) = decide (b = 0) := by
  by_cases hn : 9218868437227405312 < b
  · have : FloatKind.f64.format.order b 0 = none := by
      show (Ieee.double.read b).order _ = _
      rw [read_eq b (by omega)]; exact order_nan_left b _ (by omega)
    rw [this, Bool.eq_iff_iff]; simp; omega
  · rw [order_val b 0 (by omega) (by omega) (by omega) (by omega), Bool.eq_iff_iff]
    simp only [beq_iff_eq, Option.some.injEq, cmp_eq_iff, decide_eq_true_eq]
    have e : valW 0 = 0 := by decide
    have e1 : valW b = (magW b : Int) := by unfold valW topB; rw [if_neg (by simp; omega), Nat.mod_eq_of_lt hb]
    rw [e, e1]
    constructor
    · intro h
      have : magW b = magW 0 := by have e0 : magW 0 = 0 := by decide
                                   omega
      exact magW_inj this
    · rintro rfl; decide
theorem powB_bd {b : Nat} (h0 : 0 < b) (hb : b < 9218868437227405312) : -1100 ≤ powB b ∧ powB b ≤ 1100 := by
  have hf : fracB b ≠ 0 ∧ fracB b < 18446744073709551616 := by unfold fracB; split <;> omega
  have hk := ctz_lt hf.1 hf.2
  unfold powB placeB
  generalize Lib.ctz 64 (fracB b) = k at *
  split <;> omega
theorem oddB_lt {b : Nat} : oddB b < 18446744073709551616 := by
  unfold oddB
  have hf : fracB b < 18446744073709551616 := by unfold fracB; split <;> omega
  exact Nat.lt_of_le_of_lt (Nat.div_le_self _ _) hf
theorem dec_len (u : Nat) (hu : u < 18446744073709551616) : (Lib.decDigits u).length ≤ 20 := by
  rw [Lib.decDigits_length]
  by_cases h : u = 0
  · subst h; rw [Lib.nDigits_small (by omega)]; omega
  · have := Lib.numDigits_eq u (by omega) hu; split at this <;> omega
theorem itoa_len (n : Int) (h0 : -9223372036854775808 ≤ n) (h1 : n ≤ 9223372036854775807) : (Lib.itoa n).length ≤ 21 := by
  unfold Lib.itoa; split
  · have := dec_len n.natAbs (by omega); simp; omega
  · have := dec_len n.toNat (by omega); omega
set_option maxHeartbeats 400000 in
theorem plain_zero (w : World) :
    Calls Tryd.prog 32 #[.float .f64 0] w fun e w' => e = .returned (.string ⟨(plainB 0).toArray⟩) ∧ Below w.heap.size w w' := by
  have hz := zero_cmp (b := 0) (by omega)
  simp at hz
  go_enter Tryd.func32, Tryd.ntmps32
  go_wp2
  go_ret
  exact ⟨rfl, Below.refl _ _⟩
set_option maxHeartbeats 400000 in
theorem plain_some (b : Nat) (h0 : 0 < b) (hb : b < 9218868437227405312) (w : World) (hE : Env w) :
    Calls Tryd.prog 32 #[.float .f64 b] w fun e w' => e = .returned (.string ⟨(plainB b).toArray⟩) ∧ Below w.heap.size w w' := by
  have hz := zero_cmp (b := b) (by omega)
  rw [show decide (b = 0) = false by simp; omega] at hz
  have hs := split_any b h0 hb w hE.ctz
  have Hs := Lib.hid hs
  have HE := Lib.hid hE
  have Hp := Lib.hid (powB_bd h0 hb)
  clear hs hE
  have hl1 := dec_len (oddB b) oddB_lt
  have hl2 := itoa_len (powB b) (by have := Hp.out; omega) (by have := Hp.out; omega)
  go_enter Tryd.func32, Tryd.ntmps32
  go_wp2_with fail
  refine Hs.out.mono ?_
  rintro e w' ⟨rfl, rfl⟩
  go_wp2_with fail
  refine (fmtu_pub (oddB b) oddB_lt _ HE.out.pow).mono ?_
  rintro e w1 ⟨rfl, hb1⟩
  go_wp2_with fail
  refine (Tryd.strconv_Itoa (powB b) (by have := Hp.out; omega) (by have := Hp.out; omega) _ (HE.out.below HE.out.big hb1).pow).mono ?_
  rintro e w2 ⟨rfl, k, os, rfl⟩
  go_wp2
  go_ret
  refine ⟨ret_str ?_, hb1.trans ((below_grow' w1 k os).mono hb1.size)⟩
  have e : plainB b = Lib.decDigits (oddB b) ++ [112] ++ Lib.itoa (powB b) := by
    unfold plainB; rw [if_neg (by omega)]; simp
  rw [e, ← ByteArray.mk_append_mk, ← ByteArray.mk_append_mk]
theorem plain_any (b : Nat) (hb : b < 9218868437227405312) (w : World) (hE : Env w) :
    Calls Tryd.prog 32 #[.float .f64 b] w fun e w' => e = .returned (.string ⟨(plainB b).toArray⟩) ∧ Below w.heap.size w w' := by
  by_cases h : b = 0
  · subst h; exact plain_zero w
  · exact plain_some b (by omega) hb w hE
theorem plainB_len {b : Nat} (hb : b < 9218868437227405312) : (plainB b).length ≤ 42 := by
  unfold plainB
  by_cases h : b = 0
  · rw [if_pos h]; simp
  · rw [if_neg h]
    have hl1 := dec_len (oddB b) oddB_lt
    have hl2 := itoa_len (powB b) (by have := powB_bd (by omega) hb; omega) (by have := powB_bd (by omega) hb; omega)
    simp; omega

theorem print_nan (b : Nat) (h : nanB b = true) (w : World) :
    Calls Tryd.prog 19 #[.float .f64 b] w fun e w' => e = .returned (.string ⟨(printB b).toArray⟩) ∧ Below w.heap.size w w' := by
  have HP := Lib.hid (show printB b = [110, 97, 110] by unfold printB; rw [if_pos h])
  go_enter Tryd.func19, Tryd.ntmps19
  go_wp2_with (go_at_call 26; refine (isnan_any _ _).mono ?_; rintro e w' ⟨rfl, rfl⟩)
  go_ret
  exact ⟨by rw [HP.out]; rfl, Below.refl _ _⟩
theorem print_inf (b : Nat) (h : nanB b = false) (h2 : infB b = true) (w : World) :
    Calls Tryd.prog 19 #[.float .f64 b] w fun e w' => e = .returned (.string ⟨(printB b).toArray⟩) ∧ Below w.heap.size w w' := by
  have HP := Lib.hid (show printB b = [105, 110, 102] by unfold printB; rw [h, h2]; rfl)
  go_enter Tryd.func19, Tryd.ntmps19
  go_wp2_with (first
    | (go_at_call 26; refine (isnan_any _ _).mono ?_; rintro e w' ⟨rfl, rfl⟩)
    | (go_at_call 22; refine (isinf_pos _ _).mono ?_; rintro e w' ⟨rfl, rfl⟩))
  go_ret
  exact ⟨by rw [HP.out]; rfl, Below.refl _ _⟩
theorem print_ninf (b : Nat) (hb : b < 18446744073709551616) (h : nanB b = false) (h2 : infB b = false) (h3 : infB (negB b) = true) (w : World) :
    Calls Tryd.prog 19 #[.float .f64 b] w fun e w' => e = .returned (.string ⟨(printB b).toArray⟩) ∧ Below w.heap.size w w' := by
  have HP := Lib.hid (show printB b = [45, 105, 110, 102] by unfold printB; rw [h, h2, h3]; rfl)
  have Hb := Lib.hid hb
  clear hb
  go_enter Tryd.func19, Tryd.ntmps19
  go_wp2_with fail
  refine (isnan_any _ _).mono ?_; rintro e w' ⟨rfl, rfl⟩
  go_wp2_with fail
  refine (isinf_pos _ _).mono ?_; rintro e w' ⟨rfl, rfl⟩
  go_wp2_with fail
  refine (isinf_neg _ Hb.out _).mono ?_; rintro e w' ⟨rfl, rfl⟩
  go_wp2_with fail
  go_ret
  exact ⟨by rw [HP.out]; rfl, Below.refl _ _⟩
theorem print_neg (b : Nat) (hb : b < 18446744073709551616) (h : nanB b = false) (h2 : infB b = false) (h3 : infB (negB b) = false) (h4 : topB b = true) (hf : negB b < 9218868437227405312) (w : World) (hE : Env w) :
    Calls Tryd.prog 19 #[.float .f64 b] w fun e w' => e = .returned (.string ⟨(printB b).toArray⟩) ∧ Below w.heap.size w w' := by
  have HP := Lib.hid (show printB b = [45] ++ plainB (negB b) by unfold printB; rw [h, h2, h3, h4]; rfl)
  have Hb := Lib.hid hb
  have hn := fun w => run_neg b hb w
  have Hf := Lib.hid hf
  have HE := Lib.hid hE
  have hl := plainB_len hf
  clear hb hf hE
  go_enter Tryd.func19, Tryd.ntmps19
  go_wp2_with fail
  refine (isnan_any _ _).mono ?_; rintro e w' ⟨rfl, rfl⟩
  go_wp2_with fail
  refine (isinf_pos _ _).mono ?_; rintro e w' ⟨rfl, rfl⟩
  go_wp2_with fail
  refine (isinf_neg _ Hb.out _).mono ?_; rintro e w' ⟨rfl, rfl⟩
  go_wp2_with fail
  refine (signbit_any _ Hb.out _).mono ?_; rintro e w' ⟨rfl, rfl⟩
  go_wp2_with fail
  refine (plain_any _ Hf.out _ HE.out).mono ?_; rintro e w' ⟨rfl, hb1⟩
  go_wp2
  go_ret
  exact ⟨by rw [HP.out, ← ByteArray.mk_append_mk]; rfl, hb1⟩
theorem print_pos (b : Nat) (hb : b < 18446744073709551616) (h : nanB b = false) (h2 : infB b = false) (h3 : infB (negB b) = false) (h4 : topB b = false) (hf : b < 9218868437227405312) (w : World) (hE : Env w) :
    Calls Tryd.prog 19 #[.float .f64 b] w fun e w' => e = .returned (.string ⟨(printB b).toArray⟩) ∧ Below w.heap.size w w' := by
  have HP := Lib.hid (show printB b = plainB b by unfold printB; rw [h, h2, h3, h4]; rfl)
  have Hb := Lib.hid hb
  have Hf := Lib.hid hf
  have HE := Lib.hid hE
  clear hb hf hE
  go_enter Tryd.func19, Tryd.ntmps19
  go_wp2_with fail
  refine (isnan_any _ _).mono ?_; rintro e w' ⟨rfl, rfl⟩
  go_wp2_with fail
  refine (isinf_pos _ _).mono ?_; rintro e w' ⟨rfl, rfl⟩
  go_wp2_with fail
  refine (isinf_neg _ Hb.out _).mono ?_; rintro e w' ⟨rfl, rfl⟩
  go_wp2_with fail
  refine (signbit_any _ Hb.out _).mono ?_; rintro e w' ⟨rfl, rfl⟩
  go_wp2_with fail
  refine (plain_any _ Hf.out _ HE.out).mono ?_; rintro e w' ⟨rfl, hb1⟩
  go_wp2
  go_ret
  exact ⟨by rw [HP.out]; rfl, hb1⟩
theorem fin_of {b : Nat} (hb : b < 18446744073709551616) (h : nanB b = false) (h2 : infB b = false) (h3 : infB (negB b) = false) :
    b % 9223372036854775808 < 9218868437227405312 := by
  rw [nanB_eq b hb] at h
  rw [infB_eq hb] at h2
  rw [infB_eq (neg_lt hb)] at h3
  simp at h h2 h3
  unfold negB topB at h3
  by_cases ht : 9223372036854775808 ≤ b
  · rw [if_pos (by simpa using ht)] at h3; omega
  · omega
theorem print_any (b : Nat) (hb : b < 18446744073709551616) (w : World) (hE : Env w) :
    Calls Tryd.prog 19 #[.float .f64 b] w fun e w' => e = .returned (.string ⟨(printB b).toArray⟩) ∧ Below w.heap.size w w' := by
  cases h : nanB b with
  | true => exact print_nan b h w
  | false =>
    cases h2 : infB b with
    | true => exact print_inf b h h2 w
    | false =>
      cases h3 : infB (negB b) with
      | true => exact print_ninf b hb h h2 h3 w
      | false =>
        have hf := fin_of hb h h2 h3
        cases h4 : topB b with
        | true =>
          refine print_neg b hb h h2 h3 h4 ?_ w hE
          unfold negB; rw [if_pos h4]; unfold topB at h4; simp at h4; omega
        | false =>
          refine print_pos b hb h h2 h3 h4 ?_ w hE
          unfold topB at h4; simp at h4; omega
end Go.Proofs.YtgppadnbfggkcaaDoor
