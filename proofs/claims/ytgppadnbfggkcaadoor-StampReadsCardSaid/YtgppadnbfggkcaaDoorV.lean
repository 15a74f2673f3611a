/- The walk of StampBack. -/
import Derived.Test.YtgppadnbfggkcaaDoorH
import Derived.Test.YtgppadnbfggkcaaDoorU
namespace Go.Proofs.YtgppadnbfggkcaaDoor
open Go.RowKit

theorem plain_cons (b : Nat) : ∃ c r, plainB b = c :: r ∧ 48 ≤ c.toNat ∧ c.toNat ≤ 57 := by
  unfold plainB
  by_cases h : b = 0
  · rw [if_pos h]; exact ⟨48, [], rfl, by decide, by decide⟩
  · rw [if_neg h]
    obtain ⟨c, r, e, h1, h2⟩ := digits_cons (oddB b)
    rw [e]; exact ⟨c, _, rfl, h1, h2⟩
theorem readPlain_plain (b : Nat) (hb : b < 9218868437227405312) : readPlainB (plainB b) = some b := by
  by_cases h : b = 0
  · subst h; rfl
  · obtain ⟨c, r, e, h1, h2⟩ := plain_cons b
    have n1 : plainB b ≠ [110, 97, 110] := by rw [e]; intro h; injection h with h _; subst h; simp at h2
    have n2 : plainB b ≠ [105, 110, 102] := by rw [e]; intro h; injection h with h _; subst h; simp at h2
    have ep : plainB b = Lib.decDigits (oddB b) ++ 112 :: Lib.itoa (powB b) := by unfold plainB; rw [if_neg h]
    have n3 : plainB b ≠ [48] := by
      intro h
      have : (112 : UInt8) ∈ plainB b := by rw [ep]; simp
      rw [h] at this; simp at this
    have hc := cut_p (Lib.decDigits (oddB b)) (Lib.itoa (powB b)) (fun c hc => (digits_bd (oddB b) c hc).2)
    have hbd := powB_bd (by omega) hb
    have hu : Lib.parseUintB 64 (Lib.decDigits (oddB b)) = .ok (oddB b) := by rw [Lib.parseUintB_64]; exact mag_digits _ oddB_lt
    have hn := atoi_itoa (powB b) (by omega) (by omega)
    unfold readPlainB
    rw [if_neg n1, if_neg n2, if_neg n3, ep, hc]
    simp only [if_true]
    unfold partsB
    rw [hu, hn]
    show some (ldexpB (floatOfInt .f64 (oddB b : Int)) (powB b)) = some b
    rw [ldexp_back b (by omega) hb]
theorem trim_plain {l r : List UInt8} {c : UInt8} (e : l = c :: r) (h : c.toNat ≤ 57) (h2 : 48 ≤ c.toNat) : Lib.trimPrefix l [45] = l ∧ Lib.hasPrefix l [45] = false := by
  have hp : Lib.hasPrefix l [45] = false := by
    unfold Lib.hasPrefix; rw [e]
    have : ((45 : UInt8) == c) = false := by rw [beq_eq_false_iff_ne]; rintro rfl; simp at h2
    simp [List.isPrefixOf, this]
  exact ⟨by unfold Lib.trimPrefix; rw [hp]; rfl, hp⟩
theorem trim_minus (l : List UInt8) : Lib.trimPrefix (45 :: l) [45] = l ∧ Lib.hasPrefix (45 :: l) [45] = true := by
  have hp : Lib.hasPrefix (45 :: l) [45] = true := by unfold Lib.hasPrefix; simp [List.isPrefixOf]
  exact ⟨by unfold Lib.trimPrefix; rw [hp]; rfl, hp⟩
theorem neg_neg {b : Nat} (h : topB b = true) (hb : b < 18446744073709551616) : negB (negB b) = b := by
  have h1 : 9223372036854775808 ≤ b := by unfold topB at h; simpa using h
  have e : negB b = b - 9223372036854775808 := by unfold negB; rw [if_pos h]
  have h2 : topB (b - 9223372036854775808) = false := by unfold topB; simp; omega
  rw [e]; unfold negB; rw [if_neg (by rw [h2]; decide)]; omega
theorem print_canon (b : Nat) : printB (canonB b) = printB b := by
  unfold canonB
  split
  · rename_i h
    have e1 : nanB 9221120237041090560 = true := by decide +kernel
    unfold printB; rw [if_pos h, if_pos e1]
  · rfl
theorem read_print (b : Nat) (hb : b < 18446744073709551616) : readB (printB b) = some (canonB b) := by
  cases h1 : nanB b with
  | true =>
    have e : printB b = [110, 97, 110] := by unfold printB; rw [if_pos h1]
    have e2 : canonB b = 9221120237041090560 := by unfold canonB; rw [if_pos h1]
    have e3 : printB 9221120237041090561 = [110, 97, 110] := by
      have : nanB 9221120237041090561 = true := by decide +kernel
      unfold printB; rw [if_pos this]
    have e4 : canonB 9221120237041090561 = 9221120237041090560 := by decide +kernel
    rw [e, e2]
    have e5 : readPlainB (Lib.trimPrefix [110, 97, 110] [45]) = some 9221120237041090561 := by decide +kernel
    have e6 : Lib.hasPrefix [110, 97, 110] [45] = false := by decide
    unfold readB; rw [e5, e6]
    simp [e3, e4]
  | false =>
    have hc := canonB_eq b h1
    rw [hc]
    cases h2 : infB b with
    | true =>
      have e : printB b = [105, 110, 102] := by unfold printB; rw [h1, h2]; rfl
      have eb : b = 9218868437227405312 := by rw [infB_eq hb] at h2; simpa using h2
      have e5 : readPlainB (Lib.trimPrefix [105, 110, 102] [45]) = some 9218868437227405312 := by decide +kernel
      have e6 : Lib.hasPrefix [105, 110, 102] [45] = false := by decide
      rw [e]; unfold readB; rw [e5, e6, ← eb]
      simp [e, hc]
    | false =>
      cases h3 : infB (negB b) with
      | true =>
        have e : printB b = [45, 105, 110, 102] := by unfold printB; rw [h1, h2, h3]; rfl
        have eb : negB 9218868437227405312 = b := by
          rw [infB_eq (neg_lt hb)] at h3
          have h4 : negB b = 9218868437227405312 := by simpa using h3
          have ht : topB b = true := by
            cases ht : topB b with
            | true => rfl
            | false =>
              have : negB b = b + 9223372036854775808 := by unfold negB; rw [if_neg (by rw [ht]; decide)]
              omega
          rw [← h4]; exact neg_neg ht hb
        have e5 : readPlainB (Lib.trimPrefix [45, 105, 110, 102] [45]) = some 9218868437227405312 := by decide +kernel
        have e6 : Lib.hasPrefix [45, 105, 110, 102] [45] = true := by decide
        rw [e]; unfold readB; rw [e5, e6]
        simp only [if_true, eb, e, hc]
      | false =>
        have hf := fin_of hb h1 h2 h3
        cases h4 : topB b with
        | true =>
          have e : printB b = 45 :: plainB (negB b) := by unfold printB; rw [h1, h2, h3, h4]; rfl
          have hn : negB b < 9218868437227405312 := by unfold negB; rw [if_pos h4]; unfold topB at h4; simp at h4; omega
          obtain ⟨t1, t2⟩ := trim_minus (plainB (negB b))
          rw [e]; unfold readB; rw [t1, t2, readPlain_plain _ hn]
          simp only [if_true, neg_neg h4 hb, e, hc]
        | false =>
          have e : printB b = plainB b := by unfold printB; rw [h1, h2, h3, h4]; rfl
          have hn : b < 9218868437227405312 := by unfold topB at h4; simp at h4; omega
          obtain ⟨c, r, ec, c1, c2⟩ := plain_cons b
          obtain ⟨t1, t2⟩ := trim_plain ec c2 c1
          rw [e]; unfold readB; rw [t1, t2, readPlain_plain _ hn]
          simp [e, hc]
theorem read_back {s : List UInt8} {c : Nat} (h : readB s = some c) : printB c = s ∧ c < 18446744073709551616 := by
  unfold readB at h
  cases hb : readPlainB (Lib.trimPrefix s [45]) with
  | none => rw [hb] at h; cases h
  | some b =>
    rw [hb] at h
    have hlt := readPlainB_lt hb
    have hf : (if Lib.hasPrefix s [45] = true then negB b else b) < 18446744073709551616 := by
      split
      · exact neg_lt (by omega)
      · omega
    simp only at h
    generalize (if Lib.hasPrefix s [45] = true then negB b else b) = f at *
    by_cases hp : printB f = s
    · rw [if_pos hp] at h
      cases h
      exact ⟨by rw [print_canon]; exact hp, canonB_lt hf⟩
    · rw [if_neg hp] at h; cases h
set_option maxRecDepth 100000 in
set_option maxHeartbeats 800000 in
theorem back_law (f : Nat) (s : ByteArray) (hf : f < 18446744073709551616) (hs : s.size ≤ 281474976710656) (w : World) (hE : Env w) :
    Calls Tryd.prog 5 #[.float .f64 f, .string s] w fun e w' => e = .returned (.bool true) ∧ Below w.heap.size w w' := by
  have hl := printB_len f hf
  have HP := Lib.hid (print_any f hf)
  have HQ := Lib.hid (fun w hE => parse_fit ⟨(printB f).toArray⟩ (by simp [ByteArray.size]; omega) (canonB f) (by simpa using read_print f hf) w hE)
  have HC := Lib.hid (canon_any f)
  have HE := Lib.hid hE
  have h14 := fb14
  clear hE hl
  generalize printB f = pf at *
  generalize canonB f = x at *
  cases hr : readB s.data.toList with
  | none =>
    have HR := Lib.hid (parse_bad s hs hr)
    clear hr hs hf
    go_enter Tryd.func5, Tryd.ntmps5
    go_wp2_with fail
    refine (awake_any _ HE.out).mono ?_
    rintro e w1 ⟨rfl, hb1⟩
    go_wp2_with fail
    have HE1 := Lib.hid (HE.out.below HE.out.big hb1)
    refine (HP.out _ HE1.out).mono ?_
    rintro e w2 ⟨rfl, hb2⟩
    go_wp2_with fail
    have HE2 := Lib.hid (HE1.out.below HE1.out.big hb2)
    refine (HQ.out _ HE2.out).mono ?_
    rintro e w3 ⟨rfl, hb3⟩
    have HE3 := Lib.hid (HE2.out.below HE2.out.big hb3)
    go_wp2_with fail
    refine (HC.out _).mono ?_
    rintro e w' ⟨rfl, rfl⟩
    go_wp2_with fail
    refine (HR.out _ HE3.out).mono ?_
    rintro e w4 ⟨rfl, hb4⟩
    go_wp2
    go_ret
    have b2 := hb1.trans (hb2.mono hb1.size)
    have b3 := b2.trans (hb3.mono b2.size)
    exact ⟨rfl, b3.trans (hb4.mono b3.size)⟩
  | some c =>
    obtain ⟨hp, hc⟩ := read_back hr
    have HR := Lib.hid (parse_fit s hs c hr)
    have HP2 := Lib.hid (print_any c hc)
    rw [hp] at HP2
    clear hr hs hf hp hc
    go_enter Tryd.func5, Tryd.ntmps5
    go_wp2_with fail
    refine (awake_any _ HE.out).mono ?_
    rintro e w1 ⟨rfl, hb1⟩
    go_wp2_with fail
    have HE1 := Lib.hid (HE.out.below HE.out.big hb1)
    refine (HP.out _ HE1.out).mono ?_
    rintro e w2 ⟨rfl, hb2⟩
    go_wp2_with fail
    have HE2 := Lib.hid (HE1.out.below HE1.out.big hb2)
    refine (HQ.out _ HE2.out).mono ?_
    rintro e w3 ⟨rfl, hb3⟩
    have HE3 := Lib.hid (HE2.out.below HE2.out.big hb3)
    go_wp2_with fail
    refine (HC.out _).mono ?_
    rintro e w' ⟨rfl, rfl⟩
    go_wp2_with fail
    refine (HR.out _ HE3.out).mono ?_
    rintro e w4 ⟨rfl, hb4⟩
    have HE4 := Lib.hid (HE3.out.below HE3.out.big hb4)
    go_wp2_with fail
    refine (HP2.out _ HE4.out).mono ?_
    rintro e w5 ⟨rfl, hb5⟩
    go_wp2
    go_ret
    have b2 := hb1.trans (hb2.mono hb1.size)
    have b3 := b2.trans (hb3.mono b2.size)
    have b4 := b3.trans (hb4.mono b3.size)
    exact ⟨rfl, b4.trans (hb5.mono b4.size)⟩
end Go.Proofs.YtgppadnbfggkcaaDoor
