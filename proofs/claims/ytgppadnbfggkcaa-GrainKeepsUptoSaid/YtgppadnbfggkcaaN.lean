/- The walk of the reader's head. -/
import Derived.Test.YtgppadnbfggkcaaL
import Derived.Laws.Bits64b
namespace Go.Proofs.Ytgppadnbfggkcaa
open Go.RowKit

def headLoop (s n : Nat) : List UInt8 → Except Int (Nat × List UInt8)
  | [] => .error 20
  | p :: r => if p.toNat = 0 ∨ (s = 61 ∧ 7 < p.toNat) then .error 21
    else if 128 ≤ p.toNat then headLoop (s + 7) (n + p.toNat % 128 * 2 ^ s) r else .ok (n + p.toNat % 128 * 2 ^ s, r)
def headD : List UInt8 → Except Int (Nat × Nat × List UInt8)
  | [] => .error 20
  | c :: r => if 128 ≤ c.toNat then (match headLoop 5 (c.toNat % 128 / 4) r with
      | .ok (n, r') => .ok (c.toNat % 4, n, r')
      | .error e => .error e)
    else .ok (c.toNat % 4, c.toNat % 128 / 4, r)
theorem or_sum (n m s : Nat) (h : n < 2 ^ s) (hl : n + m * 2 ^ s < 18446744073709551616) : bits .or .u64 (n : Int) ((m * 2 ^ s : Nat) : Int) = ((n + m * 2 ^ s : Nat) : Int) := by
  rw [bits_or_u64_nat n (m * 2 ^ s) (by omega) (by omega)]
  congr 1
  rw [Nat.or_comm, Nat.mul_comm m, ← Nat.two_pow_add_eq_or_of_lt h, Nat.add_comm]
theorem next_bd (n m s : Nat) (h : n < 2 ^ s) (hm : m < 128) : n + m * 2 ^ s < 2 ^ (s + 7) := by
  have : 2 ^ (s + 7) = 128 * 2 ^ s := by rw [Nat.pow_add, Nat.mul_comm]
  have h2 : m * 2 ^ s ≤ 127 * 2 ^ s := Nat.mul_le_mul_right _ (by omega)
  omega
theorem pow_bd {s : Nat} (h : s ≤ 54) : 2 ^ (s + 7) ≤ 2305843009213693952 := by
  have := Nat.pow_le_pow_right (n := 2) (by omega) (show s + 7 ≤ 61 by omega)
  simpa using this
/-- The one byte that take(1) answers. -/
theorem byte_of {S : Nat → Prop} {w : World} {v : Value} {c : UInt8} (h : BytesC S w v [c]) : ∃ a cap, v = .slice (some a) 1 cap ∧ 1 ≤ cap ∧ w.cell? a = some (.int .u8 c.toNat) := by
  rcases h with ⟨_, h⟩ | ⟨a, cap, h1, h2, h3, h4, h5⟩
  · cases h
  · refine ⟨a, cap, h1, h2, ?_⟩
    have := h5 0 (.int .u8 c.toNat) rfl
    rwa [show a.add 0 = a from by unfold Addr.add; split <;> simp_all] at this
def RPanics (rb : Nat) (w : World) (c : Int) (e : Ending) (w' : World) : Prop :=
  e = .panicked [{ v := .iface 29 (.int .i64 c), recovered := false }] ∧ w.grownBy w' (some rb)
def HeadGives (S : Nat → Prop) (rb : Nat) (w : World) (r : Except Int (Nat × Nat × List UInt8)) (e : Ending) (w' : World) : Prop :=
  match r with
  | .ok (k, n, l) => e = .returned (.tuple #[.int .u8 k, .int .u64 n]) ∧ k < 4 ∧ n < 18446744073709551616 ∧ RestAt S rb w' l ∧ w.grownBy w' (some rb)
  | .error c => RPanics rb w c e w'
set_option maxRecDepth 100000 in
set_option maxHeartbeats 1000000 in
theorem head_none (S : Nat → Prop) (rb : Nat) (w : World) (hR : RestAt S rb w []) :
    Calls Try.prog 39 #[.pointer (some ⟨rb, 0, none⟩)] w (RPanics rb w 20) := by
  have HT := Lib.hid (take_any S rb 1 [] w (by omega) hR)
  clear hR
  go_enter Try.func39, Try.ntmps39
  go_wp2_with fail
  refine HT.out.mono ?_
  rintro e w1 h
  rw [if_neg (by simp)] at h
  obtain ⟨rfl, rfl⟩ := h
  go_wp2_with fail
  exact ⟨rfl, rfl, kb_refl _ _⟩
def headFin (cn : Nat) (r : Except Int (Nat × List UInt8)) : Except Int (Nat × Nat × List UInt8) :=
  match r with
  | .ok (n, l) => .ok (cn % 4, n, l)
  | .error e => .error e
def headStart (cn : Nat) (l : List UInt8) : Except Int (Nat × List UInt8) := if 128 ≤ cn then headLoop 5 (cn % 128 / 4) l else .ok (cn % 128 / 4, l)
theorem headD_cons (c : UInt8) (l : List UInt8) : headD (c :: l) = headFin c.toNat (headStart c.toNat l) := by
  simp only [headD, headStart]
  split
  · cases headLoop 5 (c.toNat % 128 / 4) l with
    | ok y => rfl
    | error e => rfl
  · rfl
set_option maxRecDepth 100000 in
set_option maxHeartbeats 2000000 in
theorem head_some (S : Nat → Prop) (rb : Nat) (c : UInt8) (l : List UInt8) (w : World) (hR : RestAt S rb w (c :: l)) :
    Calls Try.prog 39 #[.pointer (some ⟨rb, 0, none⟩)] w (HeadGives S rb w (headD (c :: l))) := by
  have HT := Lib.hid (take_any S rb 1 (c :: l) w (by omega) hR)
  have hc := c.toNat_lt
  rw [headD_cons]
  generalize hf : headStart c.toNat l = fin
  generalize hx : headFin c.toNat fin = x
  have HX := Lib.hid hx
  have HF := Lib.hid hf
  clear hR hx hf
  go_enter Try.func39, Try.ntmps39
  go_wp2_with fail
  refine HT.out.mono ?_
  rintro e w1 h
  rw [if_pos (by simp)] at h
  obtain ⟨out, rfl, hb, hr1, hk1⟩ := h
  obtain ⟨a, cap, rfl, hcap, hcell⟩ := byte_of hb
  have HR1 := Lib.hid hr1
  have HK1 := Lib.hid hk1
  clear hb hr1 hk1 HT
  generalize c.toNat = cn at *
  go_wp2_with fail
  clear hcell
  go_loopw [3, 5, 6] (fun n m s wr => ∃ (sh nn : Nat) (more : Bool) (l' : List UInt8), n = .int .u64 nn ∧ m = .bool more ∧ s = .int .i64 sh ∧ RestAt S rb wr l' ∧ w.grownBy wr (some rb) ∧ nn < 2 ^ sh ∧ sh ≤ 68 ∧ (more = true → sh ≤ 61) ∧ (nn < 18446744073709551616) ∧
      sh % 7 = 5 ∧ fin = (if more = true then headLoop sh nn l' else .ok (nn, l')))
    (fun _ _ s _ => 75 - (intOf s).toNat)
  case atStart =>
    refine ⟨5, cn % 128 / 4, decide (128 ≤ cn), l, ?_, ?_, rfl, HR1.out, HK1.out, by omega, by omega, fun _ => by omega, by omega, rfl, ?_⟩
    · exact congrArg (Value.int .u64) (by omega)
    · exact congrArg Value.bool (decide_eq_decide.2 (by omega))
    · rw [← HF.out]; unfold headStart
      by_cases h : 128 ≤ cn <;> simp [h]
  case round =>
    obtain ⟨sh, nn, more, l', rfl, rfl, rfl, hrr, hkr, hnn, hsh, hmore, hnl, hs7, hfin⟩ := hrel
    have HRR := Lib.hid hrr
    have HKR := Lib.hid hkr
    have HFI := Lib.hid hfin
    have HNN := Lib.hid hnn
    have HNL := Lib.hid hnl
    clear hrr hkr hfin hnn hnl HR1 HK1
    cases more with
    | false =>
      have hx := HX.out
      rw [HFI.out] at hx
      simp only [headFin, Bool.false_eq_true, if_false] at hx
      clear HX HFI HF
      subst hx
      go_wp2_with fail
      go_ret2
      refine ⟨?_, by omega, HNL.out, HRR.out, HKR.out⟩
      have e : ((cn % 4 : Nat) : Int) = (cn : Int) % 4 := by omega
      rw [e]; rfl
    | true =>
      have hs61 := hmore rfl
      cases l' with
      | nil =>
        have hx := HX.out
        rw [HFI.out] at hx
        simp only [if_true, headLoop, headFin] at hx
        have HT := Lib.hid (take_any S rb 1 [] wr (by omega) HRR.out)
        clear HX HFI HF
        subst hx
        go_wp2_with fail
        refine HT.out.mono ?_
        rintro e w2 h
        rw [if_neg (by simp)] at h
        obtain ⟨rfl, rfl⟩ := h
        go_wp2_with fail
        exact ⟨rfl, rfl, HKR.out⟩
      | cons p r =>
        have HT := Lib.hid (take_any S rb 1 (p :: r) wr (by omega) HRR.out)
        have hp := p.toNat_lt
        go_wp2_with fail
        refine HT.out.mono ?_
        rintro e w2 h
        rw [if_pos (by simp)] at h
        obtain ⟨out, rfl, hb, hr2, hk2⟩ := h
        obtain ⟨a2, cap2, rfl, hcap2, hcell2⟩ := byte_of hb
        have HR2 := Lib.hid hr2
        have HK2 := Lib.hid (kb_trans HKR.out hk2)
        clear hb hr2 hk2 HT
        generalize hpn : p.toNat = pn at *
        have HPN := Lib.hid hpn
        clear hpn
        by_cases hp0 : pn = 0
        · have hx := HX.out
          have hfi := HFI.out
          simp only [if_true, headLoop] at hfi
          rw [HPN.out, if_pos (Or.inl hp0)] at hfi
          rw [hfi] at hx
          simp only [headFin] at hx
          clear HX HFI HF hfi
          subst hx
          go_wp2_with fail
          exact ⟨rfl, rfl, HK2.out⟩
        · by_cases h61 : sh = 61
          · subst h61
            by_cases h7 : 7 < pn
            · have hx := HX.out
              have hfi := HFI.out
              simp only [if_true, headLoop] at hfi
              rw [HPN.out, if_pos (Or.inr ⟨trivial, h7⟩)] at hfi
              rw [hfi] at hx
              simp only [headFin] at hx
              clear HX HFI HF hfi
              subst hx
              go_wp2_with fail
              exact ⟨rfl, rfl, HK2.out⟩
            · have hq0 : ((pn : Int) == 0) = false := by rw [beq_eq_false_iff_ne]; omega
              have hq7 : decide ((7 : Int) < (pn : Int)) = false := by simp; omega
              have hor : bits .or .u64 (nn : Int) ((pn : Int) % 128 * 2305843009213693952) = ((nn + pn % 128 * 2 ^ 61 : Nat) : Int) := by
                have e : (pn : Int) % 128 * 2305843009213693952 = ((pn % 128 * 2 ^ 61 : Nat) : Int) := by rw [show (2 : Nat) ^ 61 = 2305843009213693952 from rfl]; omega
                rw [e]; exact or_sum nn (pn % 128) 61 HNN.out (by have := HNN.out; omega)
              have hfi := HFI.out
              simp only [if_true, headLoop] at hfi
              rw [HPN.out, if_neg (by omega)] at hfi
              have HFJ := Lib.hid hfi
              clear hfi
              go_wp2_with fail
              refine ⟨⟨61 + 7, nn + pn % 128 * 2 ^ 61, decide (128 ≤ pn), r, congrArg (Value.int .u64) (by rw [show (2 : Nat) ^ 61 = 2305843009213693952 from rfl]; omega), congrArg Value.bool (decide_eq_decide.2 (by omega)), by go_num, HR2.out, HK2.out, next_bd _ _ _ HNN.out (by omega), by omega, fun h => by simp at h; omega, by have := HNN.out; omega, by omega, ?_⟩, by simp [intOf]⟩
              rw [HFJ.out]; simp
          · have hpb := pow_bd (s := sh) (by omega)
            have hnb := next_bd nn (pn % 128) sh HNN.out (by omega)
            have HPB := Lib.hid hpb
            have HNB := Lib.hid hnb
            have hsl : IntKind.u64.wrap ((pn : Int) % 128 * 2 ^ sh) = ((pn % 128 * 2 ^ sh : Nat) : Int) := by
              have e : (pn : Int) % 128 * 2 ^ sh = ((pn % 128 * 2 ^ sh : Nat) : Int) := by push_cast; rfl
              rw [e, IntKind.wrap_u64]; omega
            clear hpb hnb
            have hor : bits .or .u64 (nn : Int) ((pn : Int) % 128 * 2 ^ sh) = ((nn + pn % 128 * 2 ^ sh : Nat) : Int) := by
              have e : (pn : Int) % 128 * 2 ^ sh = ((pn % 128 * 2 ^ sh : Nat) : Int) := by push_cast; rfl
              rw [e]; exact or_sum nn (pn % 128) sh HNN.out (by have := HPB.out; have := HNB.out; omega)
            have hfi := HFI.out
            simp only [if_true, headLoop] at hfi
            rw [HPN.out, if_neg (by omega)] at hfi
            have HFJ := Lib.hid hfi
            clear hfi
            go_wp2_with fail
            refine ⟨⟨sh + 7, nn + pn % 128 * 2 ^ sh, decide (128 ≤ pn), r, congrArg (Value.int .u64) (by push_cast; rfl), congrArg Value.bool (decide_eq_decide.2 (by omega)), by go_num, HR2.out, HK2.out, next_bd _ _ _ HNN.out (by omega), by omega, fun h => by omega, by have := HPB.out; have := HNB.out; omega, by omega, ?_⟩, by simp [intOf]; omega⟩
            rw [HFJ.out]; simp
theorem head_any (S : Nat → Prop) (rb : Nat) (l : List UInt8) (w : World) (hR : RestAt S rb w l) :
    Calls Try.prog 39 #[.pointer (some ⟨rb, 0, none⟩)] w (HeadGives S rb w (headD l)) := by
  cases l with
  | nil => exact head_none S rb w hR
  | cons c r => exact head_some S rb c r w hR
end Go.Proofs.Ytgppadnbfggkcaa
