/- The walk of the reference's head. -/
import Derived.Test.YtgppadnbfggkcaaU
import Derived.Test.YtgppadnbfggkcaaH
import Derived.Deep.Cut
namespace Go.Proofs.Ytgppadnbfggkcaa
open Go.RowKit

theorem headL_of : ∀ (l : List UInt8) (s n m : Nat) (r : List UInt8), headLoop s n l = .ok (m, r) → ∃ q, l = headL (q % 128) (q / 128) ++ r ∧ m = n + q * 2 ^ s ∧ 0 < q
  | [], s, n, m, r, h => by simp only [headLoop] at h; cases h
  | p :: l, s, n, m, r, h => by
    have hp := p.toNat_lt
    simp only [headLoop] at h
    split at h
    · cases h
    rename_i hne
    have hp0 : p.toNat ≠ 0 := fun e => hne (Or.inl e)
    split at h
    · rename_i hge
      obtain ⟨q, h1, h2, h3⟩ := headL_of l _ _ m r h
      refine ⟨p.toNat % 128 + q * 128, ?_, ?_, by omega⟩
      · have e1 : (p.toNat % 128 + q * 128) % 128 = p.toNat % 128 := by omega
        have e2 : (p.toNat % 128 + q * 128) / 128 = q := by omega
        rw [e1, e2, headL, if_neg (by omega), List.cons_append, ← h1]
        congr 1
        apply UInt8.toNat.inj
        simp; omega
      · rw [h2, Nat.pow_add, Nat.add_mul, Nat.add_assoc]
        congr 2
        rw [show (2 : Nat) ^ 7 = 128 from rfl, Nat.mul_assoc, Nat.mul_comm 128]
    · injection h with h
      injection h with h1 h2
      subst h1 h2
      refine ⟨p.toNat, ?_, ?_, by omega⟩
      · have e1 : p.toNat % 128 = p.toNat := by omega
        have e2 : p.toNat / 128 = 0 := by omega
        rw [e1, e2, headL, if_pos rfl]
        simp
      · have e1 : p.toNat % 128 = p.toNat := by omega
        rw [e1]
theorem headD_of {l r : List UInt8} {k n : Nat} (h : headD l = .ok (k, n, r)) : l = headB k n ++ r ∧ k < 4 := by
  cases l with
  | nil => simp only [headD] at h; cases h
  | cons c l =>
    have hc := c.toNat_lt
    simp only [headD] at h
    split at h
    · rename_i hge
      cases hl : headLoop 5 (c.toNat % 128 / 4) l with
      | error e => rw [hl] at h; cases h
      | ok y =>
        obtain ⟨m, r'⟩ := y
        rw [hl] at h
        injection h with h
        injection h with h1 h
        injection h with h2 h3
        subst h1 h2 h3
        obtain ⟨q, e1, e2, e3⟩ := headL_of l _ _ _ _ hl
        refine ⟨?_, by omega⟩
        have e4 : m % 32 = c.toNat % 128 / 4 := by rw [e2]; omega
        have e5 : m / 32 = q := by rw [e2]; omega
        unfold headB
        rw [e4, e5, headL, if_neg (by omega), List.cons_append, ← e1]
        congr 1
        apply UInt8.toNat.inj
        simp; omega
    · injection h with h
      injection h with h1 h
      injection h with h2 h3
      subst h1 h2 h3
      refine ⟨?_, by omega⟩
      unfold headB
      have e5 : c.toNat % 128 / 4 / 32 = 0 := by omega
      rw [e5, headL, if_pos rfl]
      simp only [List.cons_append, List.nil_append]
      congr 1
      apply UInt8.toNat.inj
      simp; omega
def RHeadGives (w : World) (t : Nat) (r : Except Int (Nat × Nat × List UInt8)) (e : Ending) (w' : World) : Prop :=
  match r with
  | .ok (k, n, _) => e = .returned (.tuple #[.int .i64 k, .int .u64 n, .int .i64 (t + (headB k n).length : Nat), .int .i64 0]) ∧ k < 4 ∧ n < 18446744073709551616 ∧ Below w.heap.size w w'
  | .error c => e = .returned (.tuple #[.int .i64 0, .int .u64 0, .int .i64 t, .int .i64 c]) ∧ Below w.heap.size w w'
def placeW (k : Nat) : Nat := if k ≤ 9 then 2 ^ (5 + 7 * (k - 1)) else 0
theorem place_facts (k : Nat) (h1 : 1 ≤ k) (h9 : k ≤ 9) : placeW k = 2 ^ (5 + 7 * (k - 1)) ∧ IntKind.u64.wrap ((placeW k : Int) * 128) = (placeW (k + 1) : Int) := by
  have : k = 1 ∨ k = 2 ∨ k = 3 ∨ k = 4 ∨ k = 5 ∨ k = 6 ∨ k = 7 ∨ k = 8 ∨ k = 9 := by omega
  rcases this with rfl | rfl | rfl | rfl | rfl | rfl | rfl | rfl | rfl <;> exact ⟨rfl, by rw [IntKind.wrap_u64]; rfl⟩
theorem idx_lt {s : List UInt8} {i : Nat} (h : i < s.length) : i < (⟨s.toArray⟩ : ByteArray).size := by simpa [ByteArray.size] using h
theorem idx_eq (s : List UInt8) (i : Nat) (h : i < s.length) : (⟨s.toArray⟩ : ByteArray)[i]'(idx_lt h) = s[i] := by
  rw [ByteArray.getElem_eq_getElem_data]; simp
set_option maxRecDepth 100000 in
set_option maxHeartbeats 1000000 in
theorem rhead_none (s : List UInt8) (t : Nat) (w : World) (ht : s.length ≤ t) :
    Calls Try.prog 35 #[.string ⟨s.toArray⟩, .int .i64 t] w (RHeadGives w t (.error 20)) := by
  go_enter Try.func35, Try.ntmps35
  go_wp2_with fail
  exact bodyPost_ret (v := .tuple #[.int .i64 0, .int .u64 0, .int .i64 t, .int .i64 20]) (by simp [results, Try.results35, go_sem]) rfl ⟨rfl, Below.refl _ _⟩
set_option maxRecDepth 100000 in
set_option maxHeartbeats 2000000 in
theorem rhead_some (s : List UInt8) (t : Nat) (w : World) (hs : s.length ≤ 1048576) (ht : t < s.length) :
    Calls Try.prog 35 #[.string ⟨s.toArray⟩, .int .i64 t] w (RHeadGives w t (headD (s.drop t))) := by
  have hdrop : s.drop t = s[t] :: s.drop (t + 1) := List.drop_eq_getElem_cons ht
  have hc := ((⟨s.toArray⟩ : ByteArray)[t]'(idx_lt ht)).toNat_lt
  rw [hdrop, headD_cons, ← idx_eq s t ht]
  generalize hf : headStart ((⟨s.toArray⟩ : ByteArray)[t]'(idx_lt ht)).toNat (s.drop (t + 1)) = fin
  generalize hx : headFin ((⟨s.toArray⟩ : ByteArray)[t]'(idx_lt ht)).toNat fin = x
  have HX := Lib.hid hx
  have HF := Lib.hid hf
  have hd16 : decide (s.length ≤ t) = false := by simp; omega
  clear hx hf hdrop
  go_enter Try.func35, Try.ntmps35
  go_upto_region 4 with fail
  generalize ((⟨s.toArray⟩ : ByteArray)[t]'(idx_lt ht)).toNat = cn at *
  have hcw : wrap64 (cn : Int) = (cn : Int) := IntWalk.wrap64_in _ ⟨by omega, by omega⟩
  go_wp2_with fail
  go_loopw [8, 10, 11, 12] (fun x n p k wr => ∃ (pn nn kk : Nat), x = .int .i64 pn ∧ n = .int .u64 nn ∧ p = .int .u64 (placeW kk) ∧ k = .int .i64 kk ∧ wr = w ∧ pn < 256 ∧ 1 ≤ kk ∧ t + kk ≤ s.length ∧ kk ≤ 10 ∧ (128 ≤ pn → kk ≤ 9) ∧ nn < 2 ^ (5 + 7 * (kk - 1)) ∧ nn < 18446744073709551616 ∧
      fin = (if 128 ≤ pn then headLoop (5 + 7 * (kk - 1)) nn (s.drop (t + kk)) else .ok (nn, s.drop (t + kk))))
    (fun _ _ _ k _ => 10 - (intOf k).toNat)
  case atStart =>
    refine ⟨cn, cn % 128 / 4, 1, ?_, ?_, rfl, rfl, rfl, hc, by omega, by omega, by omega, by omega, by omega, by omega, ?_⟩
    · go_num
    · exact congrArg (Value.int .u64) (by omega)
    · rw [← HF.out]; unfold headStart
      by_cases h : 128 ≤ cn <;> simp [h]
  case round =>
    obtain ⟨pn, nn, kk, rfl, rfl, rfl, rfl, rfl, hpn, hk1, hks, hk10, hk9, hnn, hnl, hfin⟩ := hrel
    have HFI := Lib.hid hfin
    have HNN := Lib.hid hnn
    have HNL := Lib.hid hnl
    clear hfin hnn hnl
    by_cases hmore : 128 ≤ pn
    · have hk9 := hk9 hmore
      by_cases hend : s.length ≤ t + kk
      · have hx := HX.out
        rw [HFI.out, if_pos hmore, List.drop_eq_nil_of_le hend] at hx
        simp only [headLoop, headFin] at hx
        clear HX HFI HF
        subst hx
        go_wp2_with fail
        exact bodyPost_ret (v := .tuple #[.int .i64 0, .int .u64 0, .int .i64 t, .int .i64 20]) (by simp [results, Try.results35, go_sem]) rfl ⟨rfl, Below.refl _ _⟩
      · have hlt : t + kk < s.length := by omega
        have hdrop : s.drop (t + kk) = s[t + kk] :: s.drop (t + kk + 1) := List.drop_eq_getElem_cons hlt
        have hc2 := ((⟨s.toArray⟩ : ByteArray)[t + kk]'(idx_lt hlt)).toNat_lt
        have hfi := HFI.out
        rw [if_pos hmore, hdrop, ← idx_eq s (t + kk) hlt] at hfi
        simp only [headLoop] at hfi
        have HFJ := Lib.hid hfi
        clear hfi hdrop
        go_upto_region 13 with fail
        generalize ((⟨s.toArray⟩ : ByteArray)[t + kk]'(idx_lt hlt)).toNat = qn at *
        have hcw2 : wrap64 (qn : Int) = (qn : Int) := IntWalk.wrap64_in _ ⟨by omega, by omega⟩
        have hfj := HFJ.out
        rw [show s.drop (t + kk + 1) = s.drop (t + (kk + 1)) from rfl] at hfj
        by_cases hbad : qn = 0 ∨ (5 + 7 * (kk - 1) = 61 ∧ 7 < qn)
        · have hx := HX.out
          rw [hfj, if_pos hbad] at hx
          simp only [headFin] at hx
          clear HX HFI HF HFJ hfj hcw hcw2
          subst hx
          have hbad2 : qn = 0 ∨ (kk = 9 ∧ 7 < qn) := by omega
          clear hbad
          rcases hbad2 with rfl | ⟨rfl, h7⟩
          · go_wp2_with fail
            exact bodyPost_ret (v := .tuple #[.int .i64 0, .int .u64 0, .int .i64 t, .int .i64 21]) (by simp [results, Try.results35, go_sem]) rfl ⟨rfl, Below.refl _ _⟩
          · have hq0 : ((qn : Int) == 0) = false := by rw [beq_eq_false_iff_ne]; omega
            have hq7 : decide ((7 : Int) < (qn : Int)) = true := by simp; omega
            go_wp2_with fail
            exact bodyPost_ret (v := .tuple #[.int .i64 0, .int .u64 0, .int .i64 t, .int .i64 21]) (by simp [results, Try.results35, go_sem]) rfl ⟨rfl, Below.refl _ _⟩
        · rw [if_neg hbad] at hfj
          have HFK := Lib.hid hfj
          have hq0 : ((qn : Int) == 0) = false := by rw [beq_eq_false_iff_ne]; omega
          obtain ⟨hpl, hpn2⟩ := place_facts kk hk1 hk9
          have hnb := next_bd nn (qn % 128) (5 + 7 * (kk - 1)) HNN.out (by omega)
          have hsum : nn + qn % 128 * 2 ^ (5 + 7 * (kk - 1)) < 18446744073709551616 := by
            by_cases h9 : kk = 9
            · subst h9
              have := HNN.out
              omega
            · have := pow_bd (s := 5 + 7 * (kk - 1)) (by omega)
              omega
          have hnb2 : nn + qn % 128 * 2 ^ (5 + 7 * (kk - 1)) < 2 ^ (5 + 7 * (kk + 1 - 1)) := by
            rw [show 5 + 7 * (kk + 1 - 1) = 5 + 7 * (kk - 1) + 7 by omega]; exact hnb
          rw [← hpl] at hnb2 hsum
          have e7 : 5 + 7 * (kk - 1) + 7 = 5 + 7 * (kk + 1 - 1) := by omega
          have hfk := HFK.out
          rw [← hpl, e7] at hfk
          have HFL := Lib.hid hfk
          clear hnb hfk HFK hfj HFJ hpl e7
          generalize placeW kk = pl at *
          have hmul : IntKind.u64.wrap ((qn : Int) % 128 * (pl : Int)) = ((qn % 128 * pl : Nat) : Int) := by
            have e : (qn : Int) % 128 * (pl : Int) = ((qn % 128 * pl : Nat) : Int) := by push_cast; rfl
            rw [e, IntKind.wrap_u64]; omega
          generalize qn % 128 * pl = pr at *
          have hadd : IntKind.u64.wrap ((nn : Int) + (pr : Int)) = ((nn + pr : Nat) : Int) := by
            rw [IntKind.wrap_u64]; omega
          generalize nn + pr = sm at *
          have HB2 := Lib.hid hnb2
          have HSM := Lib.hid hsum
          clear hnb2 hsum
          by_cases h9 : kk = 9
          · have hq7 : decide ((7 : Int) < (qn : Int)) = false := by simp; omega
            have hk9f : ((kk : Int) == 9) = true := by rw [beq_iff_eq]; omega
            have H9 := Lib.hid h9
            have HBAD := Lib.hid hbad
            clear h9 hbad
            go_wp2_with fail
            go_roundw
            case rel => exact ⟨qn, sm, kk + 1, rfl, rfl, rfl, by go_num, trivial, by omega, by omega, by omega, by omega, fun h => by have := HBAD.out; have := H9.out; omega, HB2.out, HSM.out, HFL.out⟩
            case measure => simp [intOf]; omega
          · have hk9f : ((kk : Int) == 9) = false := by rw [beq_eq_false_iff_ne]; omega
            go_wp2_with fail
            go_roundw
            case rel => exact ⟨qn, sm, kk + 1, rfl, rfl, rfl, by go_num, trivial, by omega, by omega, by omega, by omega, fun h => by omega, HB2.out, HSM.out, HFL.out⟩
            case measure => simp [intOf]; omega
    · have hx := HX.out
      rw [HFI.out, if_neg hmore] at hx
      simp only [headFin] at hx
      clear HX HFI HF
      subst hx
      have HH := Lib.hid (rhead_any (cn % 4) nn wr (by omega) HNL.out)
      have hl := headB_len (cn % 4) nn HNL.out
      have HLL := Lib.hid hl
      clear hl
      go_wp2_with fail
      rw [show ((cn : Int) % 4) = ((cn % 4 : Nat) : Int) by omega]
      refine HH.out.mono ?_
      rintro e w2 ⟨rfl, hbl⟩
      have HBL := Lib.hid hbl
      have hl := HLL.out
      clear hbl
      go_wp2_with fail
      have e1 : ((cn % 4 : Nat) : Int) = (cn : Int) % 4 := by omega
      have e2 : ((t + (headB (cn % 4) nn).length : Nat) : Int) = (t : Int) + (headB (cn % 4) nn).length := by omega
      refine bodyPost_ret (v := .tuple #[.int .i64 (cn % 4 : Nat), .int .u64 nn, .int .i64 (t + (headB (cn % 4) nn).length : Nat), .int .i64 0]) ?_ rfl ⟨rfl, by omega, HNL.out, HBL.out⟩
      rw [e1, e2]
      simp [results, Try.results35, go_sem]
theorem rhead_all (s : List UInt8) (t : Nat) (w : World) (hs : s.length ≤ 1048576) : Calls Try.prog 35 #[.string ⟨s.toArray⟩, .int .i64 t] w (RHeadGives w t (headD (s.drop t))) := by
  by_cases ht : t < s.length
  · exact rhead_some s t w hs ht
  · have e : s.drop t = [] := List.drop_eq_nil_of_le (by omega)
    rw [e]; exact rhead_none s t w (by omega)
end Go.Proofs.Ytgppadnbfggkcaa
