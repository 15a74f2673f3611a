/- The reader: what is not read yet, and the walk of take. The walk of the reader's head. The walk of the reader's float, and of bytes.Clone. bytes.Clone; what is read: plainly, and in memory. The walk of the reader's list. The walk of the reader's list. The walk of the reader's value. -/
import Derived.Test.YtdolonkeanlaoaaDoorGrAE
import Derived.Deep.Slices
import Derived.Laws.Bits64b
import Derived.Outline
namespace Go.Proofs.YtdolonkeanlaoaaDoor
open Go.RowKit

theorem BytesC.into {S : Nat → Prop} {B : Nat} {w : World} {v : Value} {l : List UInt8} (h : BytesC S w v l) (hS : ∀ k, S k → k < B) : BytesIn B w v l := by
  rcases h with h | ⟨a, cap, h1, _, _, h4, h5⟩
  · exact Or.inl h
  · exact Or.inr ⟨a, cap, h1, h4.imp_right (hS _), h5⟩
/-- What a reader has not read yet: l; its cell lies in block rb, the bytes in blocks of S. -/
def RestAt (S : Nat → Prop) (rb : Nat) (w : World) (l : List UInt8) : Prop :=
  ∃ v, w.cell? ⟨rb, 0, none⟩ = some v ∧ w.frozen? ⟨rb, 0, none⟩ = false ∧ BytesC S w v l ∧ ¬ S rb ∧ (∀ k, S k → k < w.heap.size) ∧ rb < w.heap.size
set_option maxRecDepth 100000 in
set_option maxHeartbeats 1000000 in
theorem take_some (rb n : Nat) (a : Addr) (cap : Nat) (l : List UInt8) (w : World) (hc : w.cell? ⟨rb, 0, none⟩ = some (.slice (some a) l.length cap)) (hf : w.frozen? ⟨rb, 0, none⟩ = false) (hl : l.length ≤ cap) (hm : cap ≤ maxLen) (hle : n ≤ l.length) :
    Calls Tryd.prog 88 #[.pointer (some ⟨rb, 0, none⟩), .int .u64 n] w fun e w' => ∃ a', (a' = a.add n ∨ l.length = n) ∧ a'.block = a.block ∧ e = .returned (.slice (some a) n cap) ∧ w' = w.setCell ⟨rb, 0, none⟩ (.slice (some a') (l.length - n) (cap - n)) := by
  have hm2 : cap ≤ 9223372036854775807 := by unfold maxLen at hm; omega
  clear hm
  by_cases hcn : cap = n
  · have hln : l.length = n := by omega
    subst hcn
    go_enter Tryd.func88, Tryd.ntmps88
    go_wp2_with fail
    go_ret
    exact ⟨a, Or.inr hln, rfl, rfl, by simp [hln]⟩
  · go_enter Tryd.func88, Tryd.ntmps88
    go_wp2_with fail
    go_ret
    exact ⟨_, Or.inl rfl, add_block _ _, rfl, rfl⟩
set_option maxRecDepth 100000 in
set_option maxHeartbeats 1000000 in
theorem take_nil (rb : Nat) (w : World) (hc : w.cell? ⟨rb, 0, none⟩ = some (.slice none 0 0)) (hf : w.frozen? ⟨rb, 0, none⟩ = false) :
    Calls Tryd.prog 88 #[.pointer (some ⟨rb, 0, none⟩), .int .u64 0] w fun e w' => e = .returned (.slice none 0 0) ∧ w' = w.setCell ⟨rb, 0, none⟩ (.slice none 0 0) := by
  go_enter Tryd.func88, Tryd.ntmps88
  go_wp2_with fail
  go_ret
  exact ⟨rfl, rfl⟩
set_option maxRecDepth 100000 in
set_option maxHeartbeats 1000000 in
theorem take_short (rb n : Nat) (sa : Option Addr) (len cap : Nat) (w : World) (hn : n < 18446744073709551616) (hlen : len ≤ 9223372036854775807) (hc : w.cell? ⟨rb, 0, none⟩ = some (.slice sa len cap)) (hle : len < n) :
    Calls Tryd.prog 88 #[.pointer (some ⟨rb, 0, none⟩), .int .u64 n] w fun e w' => e = .panicked [{ v := .iface 24 (.int .i64 20), recovered := false }] ∧ w' = w := by
  have HN := Lib.hid hn
  clear hn
  go_enter Tryd.func88, Tryd.ntmps88
  go_wp2_with fail
  exact ⟨rfl, rfl, rfl⟩
theorem take_any (S : Nat → Prop) (rb n : Nat) (l : List UInt8) (w : World) (hn : n < 18446744073709551616) (hR : RestAt S rb w l) :
    Calls Tryd.prog 88 #[.pointer (some ⟨rb, 0, none⟩), .int .u64 n] w fun e w' =>
      if n ≤ l.length then ∃ out, e = .returned out ∧ BytesC S w' out (l.take n) ∧ RestAt S rb w' (l.drop n) ∧ w.grownBy w' (some rb)
      else e = .panicked [{ v := .iface 24 (.int .i64 20), recovered := false }] ∧ w' = w := by
  obtain ⟨v, hc, hf, hb, hS, hSl, hrb⟩ := hR
  rcases hb with ⟨rfl, rfl⟩ | ⟨a, cap, rfl, hl, hm, hSa, hcells⟩
  · by_cases h0 : n = 0
    · subst h0
      refine (take_nil rb w hc hf).mono ?_
      rintro e w' ⟨rfl, rfl⟩
      rw [if_pos (by simp)]
      refine ⟨_, rfl, Or.inl ⟨rfl, rfl⟩, ⟨_, World.cell?_setCell_same _ _ _ hc, by simpa [go_sem] using hf, Or.inl ⟨rfl, rfl⟩, hS, by simpa using hSl, by simpa using hrb⟩, kb_set _ _ _ _⟩
    · refine (take_short rb n none 0 0 w hn (by omega) hc (by omega)).mono ?_
      rintro e w' ⟨rfl, rfl⟩
      rw [if_neg (by simp; omega)]
      exact ⟨rfl, rfl⟩
  · by_cases hle : n ≤ l.length
    · refine (take_some rb n a cap l w hc hf hl hm hle).mono ?_
      rintro e w' ⟨a', ha, hab, rfl, rfl⟩
      rw [if_pos hle]
      have hkeep : l ≠ [] → ∀ j, (w.setCell ⟨rb, 0, none⟩ (.slice (some a') (l.length - n) (cap - n))).cell? (a.add j) = w.cell? (a.add j) := fun hl0 j =>
        World.cell?_setCell_other _ _ _ _ (by
          intro e
          rcases hSa with h0 | hSa
          · exact hl0 h0
          · exact hS (by rw [show rb = a.block by rw [← add_block a j, ← e]]; exact hSa))
      refine ⟨_, rfl, Or.inr ⟨a, cap, ?_, ?_, hm, hSa.imp_left (fun h => by rw [h]; simp), fun j u hj => ?_⟩, ⟨_, World.cell?_setCell_same _ _ _ hc, by simpa [go_sem] using hf, Or.inr ⟨a', cap - n, ?_, ?_, by omega, by rw [hab]; exact hSa.imp_left (fun h => by rw [h]; simp), fun j u hj => ?_⟩, hS, by simpa using hSl, by simpa using hrb⟩, kb_set _ _ _ _⟩
      · rw [List.length_take, Nat.min_eq_left hle]
      · rw [List.length_take]; omega
      · rw [hkeep (by rintro rfl; simp [bv] at hj)]
        rw [bv_take, List.getElem?_take] at hj
        split at hj
        · exact hcells j u hj
        · cases hj
      · rw [List.length_drop]
      · rw [List.length_drop]; omega
      · rw [bv_drop, List.getElem?_drop] at hj
        rcases ha with rfl | ha
        · rw [Go.Deep.add_add, hkeep (by rintro rfl; simp [bv] at hj)]; exact hcells _ u hj
        · rw [List.getElem?_eq_none (by rw [bv_len]; omega)] at hj; cases hj
    · refine (take_short rb n (some a) l.length cap w hn (by unfold maxLen at hm; omega) hc (by omega)).mono ?_
      rintro e w' ⟨rfl, rfl⟩
      rw [if_neg hle]
      exact ⟨rfl, rfl⟩
end Go.Proofs.YtdolonkeanlaoaaDoor
namespace Go.Proofs.YtdolonkeanlaoaaDoor
open Go.RowKit

def headLoop (s n : Nat) : List UInt8 → Except Int (Nat × List UInt8)
  | [] => .error 20
  | p :: r => if p.toNat = 0 ∨ (s = 61 ∧ 7 < p.toNat) then .error 21
    else if 128 ≤ p.toNat then headLoop (s + 7) (n + p.toNat % 128 * 2 ^ s) r else .ok (n + p.toNat % 128 * 2 ^ s, r)
def headD : List UInt8 → Except Int (Nat × Nat × List UInt8)
  | [] => .error 20
  | c :: r => if 128 ≤ c.toNat then (match headLoop 5 (c.toNat % 128 / 4) r with
      | .ok (n, r') => .ok (c.toNat % 4, n, r')
      | .error e => .error e)
    else .ok (c.toNat % 4, c.toNat % 128 / 4, r)
theorem or_sum (n m s : Nat) (h : n < 2 ^ s) (hl : n + m * 2 ^ s < 18446744073709551616) : bits .or .u64 (n : Int) ((m * 2 ^ s : Nat) : Int) = ((n + m * 2 ^ s : Nat) : Int) := by
  rw [bits_or_u64_nat n (m * 2 ^ s) (by omega) (by omega)]
  congr 1
  rw [Nat.or_comm, Nat.mul_comm m, ← Nat.two_pow_add_eq_or_of_lt h, Nat.add_comm]
theorem next_bd (n m s : Nat) (h : n < 2 ^ s) (hm : m < 128) : n + m * 2 ^ s < 2 ^ (s + 7) := by
  have : 2 ^ (s + 7) = 128 * 2 ^ s := by rw [Nat.pow_add, Nat.mul_comm]
  have h2 : m * 2 ^ s ≤ 127 * 2 ^ s := Nat.mul_le_mul_right _ (by omega)
  omega
theorem pow_bd {s : Nat} (h : s ≤ 54) : 2 ^ (s + 7) ≤ 2305843009213693952 := by
  have := Nat.pow_le_pow_right (n := 2) (by omega) (show s + 7 ≤ 61 by omega)
  simpa using this
/-- The one byte that take(1) answers. -/
theorem byte_of {S : Nat → Prop} {w : World} {v : Value} {c : UInt8} (h : BytesC S w v [c]) : ∃ a cap, v = .slice (some a) 1 cap ∧ 1 ≤ cap ∧ w.cell? a = some (.int .u8 c.toNat) := by
  rcases h with ⟨_, h⟩ | ⟨a, cap, h1, h2, h3, h4, h5⟩
  · cases h
  · refine ⟨a, cap, h1, h2, ?_⟩
    have := h5 0 (.int .u8 c.toNat) rfl
    rwa [show a.add 0 = a from by unfold Addr.add; split <;> simp_all] at this
def RPanics (rb : Nat) (w : World) (c : Int) (e : Ending) (w' : World) : Prop :=
  e = .panicked [{ v := .iface 24 (.int .i64 c), recovered := false }] ∧ w.grownBy w' (some rb)
def HeadGives (S : Nat → Prop) (rb : Nat) (w : World) (r : Except Int (Nat × Nat × List UInt8)) (e : Ending) (w' : World) : Prop :=
  match r with
  | .ok (k, n, l) => e = .returned (.tuple #[.int .u8 k, .int .u64 n]) ∧ k < 4 ∧ n < 18446744073709551616 ∧ RestAt S rb w' l ∧ w.grownBy w' (some rb)
  | .error c => RPanics rb w c e w'
set_option maxRecDepth 100000 in
set_option maxHeartbeats 1000000 in
theorem head_none (S : Nat → Prop) (rb : Nat) (w : World) (hR : RestAt S rb w []) :
    Calls Tryd.prog 87 #[.pointer (some ⟨rb, 0, none⟩)] w (RPanics rb w 20) := by
  have HT := Lib.hid (take_any S rb 1 [] w (by omega) hR)
  clear hR
  go_enter Tryd.func87, Tryd.ntmps87
  go_wp2_with fail
  refine HT.out.mono ?_
  rintro e w1 h
  rw [if_neg (by simp)] at h
  obtain ⟨rfl, rfl⟩ := h
  go_wp2_with fail
  exact ⟨rfl, rfl, kb_refl _ _⟩
def headFin (cn : Nat) (r : Except Int (Nat × List UInt8)) : Except Int (Nat × Nat × List UInt8) :=
  match r with
  | .ok (n, l) => .ok (cn % 4, n, l)
  | .error e => .error e
def headStart (cn : Nat) (l : List UInt8) : Except Int (Nat × List UInt8) := if 128 ≤ cn then headLoop 5 (cn % 128 / 4) l else .ok (cn % 128 / 4, l)
theorem headD_cons (c : UInt8) (l : List UInt8) : headD (c :: l) = headFin c.toNat (headStart c.toNat l) := by
  simp only [headD, headStart]
  split
  · cases headLoop 5 (c.toNat % 128 / 4) l with
    | ok y => rfl
    | error e => rfl
  · rfl
set_option maxRecDepth 100000 in
set_option maxHeartbeats 2000000 in
theorem head_some (S : Nat → Prop) (rb : Nat) (c : UInt8) (l : List UInt8) (w : World) (hR : RestAt S rb w (c :: l)) :
    Calls Tryd.prog 87 #[.pointer (some ⟨rb, 0, none⟩)] w (HeadGives S rb w (headD (c :: l))) := by
  have HT := Lib.hid (take_any S rb 1 (c :: l) w (by omega) hR)
  have hc := c.toNat_lt
  rw [headD_cons]
  generalize hf : headStart c.toNat l = fin
  generalize hx : headFin c.toNat fin = x
  have HX := Lib.hid hx
  have HF := Lib.hid hf
  clear hR hx hf
  go_enter Tryd.func87, Tryd.ntmps87
  go_wp2_with fail
  refine HT.out.mono ?_
  rintro e w1 h
  rw [if_pos (by simp)] at h
  obtain ⟨out, rfl, hb, hr1, hk1⟩ := h
  obtain ⟨a, cap, rfl, hcap, hcell⟩ := byte_of hb
  have HR1 := Lib.hid hr1
  have HK1 := Lib.hid hk1
  clear hb hr1 hk1 HT
  generalize c.toNat = cn at *
  go_wp2_with fail
  clear hcell
  go_loopw [3, 5, 6] (fun n m s wr => ∃ (sh nn : Nat) (more : Bool) (l' : List UInt8), n = .int .u64 nn ∧ m = .bool more ∧ s = .int .i64 sh ∧ RestAt S rb wr l' ∧ w.grownBy wr (some rb) ∧ nn < 2 ^ sh ∧ sh ≤ 68 ∧ (more = true → sh ≤ 61) ∧ (nn < 18446744073709551616) ∧
      sh % 7 = 5 ∧ fin = (if more = true then headLoop sh nn l' else .ok (nn, l')))
    (fun _ _ s _ => 75 - (intOf s).toNat)
  case atStart =>
    refine ⟨5, cn % 128 / 4, decide (128 ≤ cn), l, ?_, ?_, rfl, HR1.out, HK1.out, by omega, by omega, fun _ => by omega, by omega, rfl, ?_⟩
    · exact congrArg (Value.int .u64) (by omega)
    · exact congrArg Value.bool (decide_eq_decide.2 (by omega))
    · rw [← HF.out]; unfold headStart
      by_cases h : 128 ≤ cn <;> simp [h]
  case round =>
    obtain ⟨sh, nn, more, l', rfl, rfl, rfl, hrr, hkr, hnn, hsh, hmore, hnl, hs7, hfin⟩ := hrel
    have HRR := Lib.hid hrr
    have HKR := Lib.hid hkr
    have HFI := Lib.hid hfin
    have HNN := Lib.hid hnn
    have HNL := Lib.hid hnl
    clear hrr hkr hfin hnn hnl HR1 HK1
    cases more with
    | false =>
      have hx := HX.out
      rw [HFI.out] at hx
      simp only [headFin, Bool.false_eq_true, if_false] at hx
      clear HX HFI HF
      subst hx
      go_wp2_with fail
      go_ret2
      refine ⟨?_, by omega, HNL.out, HRR.out, HKR.out⟩
      have e : ((cn % 4 : Nat) : Int) = (cn : Int) % 4 := by omega
      rw [e]; rfl
    | true =>
      have hs61 := hmore rfl
      cases l' with
      | nil =>
        have hx := HX.out
        rw [HFI.out] at hx
        simp only [if_true, headLoop, headFin] at hx
        have HT := Lib.hid (take_any S rb 1 [] wr (by omega) HRR.out)
        clear HX HFI HF
        subst hx
        go_wp2_with fail
        refine HT.out.mono ?_
        rintro e w2 h
        rw [if_neg (by simp)] at h
        obtain ⟨rfl, rfl⟩ := h
        go_wp2_with fail
        exact ⟨rfl, rfl, HKR.out⟩
      | cons p r =>
        have HT := Lib.hid (take_any S rb 1 (p :: r) wr (by omega) HRR.out)
        have hp := p.toNat_lt
        go_wp2_with fail
        refine HT.out.mono ?_
        rintro e w2 h
        rw [if_pos (by simp)] at h
        obtain ⟨out, rfl, hb, hr2, hk2⟩ := h
        obtain ⟨a2, cap2, rfl, hcap2, hcell2⟩ := byte_of hb
        have HR2 := Lib.hid hr2
        have HK2 := Lib.hid (kb_trans HKR.out hk2)
        clear hb hr2 hk2 HT
        generalize hpn : p.toNat = pn at *
        have HPN := Lib.hid hpn
        clear hpn
        by_cases hp0 : pn = 0
        · have hx := HX.out
          have hfi := HFI.out
          simp only [if_true, headLoop] at hfi
          rw [HPN.out, if_pos (Or.inl hp0)] at hfi
          rw [hfi] at hx
          simp only [headFin] at hx
          clear HX HFI HF hfi
          subst hx
          go_wp2_with fail
          exact ⟨rfl, rfl, HK2.out⟩
        · by_cases h61 : sh = 61
          · subst h61
            by_cases h7 : 7 < pn
            · have hx := HX.out
              have hfi := HFI.out
              simp only [if_true, headLoop] at hfi
              rw [HPN.out, if_pos (Or.inr ⟨trivial, h7⟩)] at hfi
              rw [hfi] at hx
              simp only [headFin] at hx
              clear HX HFI HF hfi
              subst hx
              go_wp2_with fail
              exact ⟨rfl, rfl, HK2.out⟩
            · have hq0 : ((pn : Int) == 0) = false := by rw [beq_eq_false_iff_ne]; omega
              have hq7 : decide ((7 : Int) < (pn : Int)) = false := by simp; omega
              have hor : bits .or .u64 (nn : Int) ((pn : Int) % 128 * 2305843009213693952) = ((nn + pn % 128 * 2 ^ 61 : Nat) : Int) := by
                have e : (pn : Int) % 128 * 2305843009213693952 = ((pn % 128 * 2 ^ 61 : Nat) : Int) := by rw [show (2 : Nat) ^ 61 = 2305843009213693952 from rfl]; omega
                rw [e]; exact or_sum nn (pn % 128) 61 HNN.out (by have := HNN.out; omega)
              have hfi := HFI.out
              simp only [if_true, headLoop] at hfi
              rw [HPN.out, if_neg (by omega)] at hfi
              have HFJ := Lib.hid hfi
              clear hfi
              go_wp2_with fail
              refine ⟨⟨61 + 7, nn + pn % 128 * 2 ^ 61, decide (128 ≤ pn), r, congrArg (Value.int .u64) (by rw [show (2 : Nat) ^ 61 = 2305843009213693952 from rfl]; omega), congrArg Value.bool (decide_eq_decide.2 (by omega)), by go_num, HR2.out, HK2.out, next_bd _ _ _ HNN.out (by omega), by omega, fun h => by simp at h; omega, by have := HNN.out; omega, by omega, ?_⟩, by simp [intOf]⟩
              rw [HFJ.out]; simp
          · have hpb := pow_bd (s := sh) (by omega)
            have hnb := next_bd nn (pn % 128) sh HNN.out (by omega)
            have HPB := Lib.hid hpb
            have HNB := Lib.hid hnb
            have hsl : IntKind.u64.wrap ((pn : Int) % 128 * 2 ^ sh) = ((pn % 128 * 2 ^ sh : Nat) : Int) := by
              have e : (pn : Int) % 128 * 2 ^ sh = ((pn % 128 * 2 ^ sh : Nat) : Int) := by push_cast; rfl
              rw [e, IntKind.wrap_u64]; omega
            clear hpb hnb
            have hor : bits .or .u64 (nn : Int) ((pn : Int) % 128 * 2 ^ sh) = ((nn + pn % 128 * 2 ^ sh : Nat) : Int) := by
              have e : (pn : Int) % 128 * 2 ^ sh = ((pn % 128 * 2 ^ sh : Nat) : Int) := by push_cast; rfl
              rw [e]; exact or_sum nn (pn % 128) sh HNN.out (by have := HPB.out; have := HNB.out; omega)
            have hfi := HFI.out
            simp only [if_true, headLoop] at hfi
            rw [HPN.out, if_neg (by omega)] at hfi
            have HFJ := Lib.hid hfi
            clear hfi
            go_wp2_with fail
            refine ⟨⟨sh + 7, nn + pn % 128 * 2 ^ sh, decide (128 ≤ pn), r, congrArg (Value.int .u64) (by push_cast; rfl), congrArg Value.bool (decide_eq_decide.2 (by omega)), by go_num, HR2.out, HK2.out, next_bd _ _ _ HNN.out (by omega), by omega, fun h => by omega, by have := HPB.out; have := HNB.out; omega, by omega, ?_⟩, by simp [intOf]; omega⟩
            rw [HFJ.out]; simp
theorem head_any (S : Nat → Prop) (rb : Nat) (l : List UInt8) (w : World) (hR : RestAt S rb w l) :
    Calls Tryd.prog 87 #[.pointer (some ⟨rb, 0, none⟩)] w (HeadGives S rb w (headD l)) := by
  cases l with
  | nil => exact head_none S rb w hR
  | cons c r => exact head_some S rb c r w hR
end Go.Proofs.YtdolonkeanlaoaaDoor
namespace Go.Proofs.YtdolonkeanlaoaaDoor
open Go.RowKit

def beN (l : List UInt8) : Nat := l.foldl (fun a c => a * 256 + c.toNat) 0
theorem beN_snoc (l : List UInt8) (c : UInt8) : beN (l ++ [c]) = beN l * 256 + c.toNat := by unfold beN; rw [List.foldl_append]; rfl
theorem beN_from : ∀ (l : List UInt8) (a k : Nat), a < 256 ^ k → l.foldl (fun a c => a * 256 + c.toNat) a < 256 ^ (k + l.length)
  | [], a, k, h => by simpa using h
  | c :: l, a, k, h => by
    have hc := c.toNat_lt
    have h1 : a * 256 + c.toNat < 256 ^ (k + 1) := by rw [Nat.pow_succ]; omega
    have := beN_from l _ (k + 1) h1
    rw [List.foldl_cons, List.length_cons, show k + (l.length + 1) = k + 1 + l.length by omega]; exact this
theorem beN_lt (k : Nat) (l : List UInt8) (hl : l.length ≤ k) : beN l < 256 ^ k := by
  have := beN_from l 0 0 (by simp)
  exact Nat.lt_of_lt_of_le this (Nat.pow_le_pow_right (by omega) (by omega))
theorem or_byte (x c : Nat) (hx : x < 72057594037927936) (hc : c < 256) : bits .or .u64 ((x : Int) * 256) (c : Int) = (((x * 256 + c : Nat)) : Int) := by
  have e : (x : Int) * 256 = ((x * 256 : Nat) : Int) := by omega
  rw [e, bits_or_u64_nat (x * 256) c (by omega) (by omega)]
  congr 1
  have := Nat.two_pow_add_eq_or_of_lt (i := 8) hc x
  rw [show x * 256 = 2 ^ 8 * x by omega, ← this]
def floatD (m : Nat) (l : List UInt8) : Except Int (Nat × List UInt8) :=
  if l.length < 8 then .error 20
  else if m ≠ 0 ∨ canonB (beN (l.take 8)) ≠ beN (l.take 8) then .error 22
  else .ok (beN (l.take 8), l.drop 8)
def FloatGives (S : Nat → Prop) (rb : Nat) (w : World) (r : Except Int (Nat × List UInt8)) (e : Ending) (w' : World) : Prop :=
  match r with
  | .ok (f, l) => e = .returned (.float .f64 f) ∧ f < 18446744073709551616 ∧ RestAt S rb w' l ∧ w.grownBy w' (some rb)
  | .error c => RPanics rb w c e w'
set_option maxRecDepth 100000 in
set_option maxHeartbeats 1000000 in
theorem float_short (S : Nat → Prop) (rb m : Nat) (l : List UInt8) (w : World) (hl : l.length < 8) (hR : RestAt S rb w l) :
    Calls Tryd.prog 89 #[.pointer (some ⟨rb, 0, none⟩), .int .u64 m] w (RPanics rb w 20) := by
  have HT := Lib.hid (take_any S rb 8 l w (by omega) hR)
  have HL := Lib.hid hl
  clear hR hl
  go_enter Tryd.func89, Tryd.ntmps89
  go_wp2_with fail
  refine HT.out.mono ?_
  rintro e w1 h
  rw [if_neg (by have := HL.out; omega)] at h
  obtain ⟨rfl, rfl⟩ := h
  go_wp2_with fail
  exact ⟨rfl, rfl, kb_refl _ _⟩
set_option maxRecDepth 100000 in
set_option maxHeartbeats 2000000 in
theorem float_long (S : Nat → Prop) (rb m : Nat) (l : List UInt8) (w : World) (hl : 8 ≤ l.length) (hm : m < 18446744073709551616) (hR : RestAt S rb w l) :
    Calls Tryd.prog 89 #[.pointer (some ⟨rb, 0, none⟩), .int .u64 m] w (FloatGives S rb w (floatD m l)) := by
  have HT := Lib.hid (take_any S rb 8 l w (by omega) hR)
  have HM := Lib.hid hm
  have ht8 : (l.take 8).length = 8 := by rw [List.length_take]; omega
  have HD : Hid (floatD m l = if m ≠ 0 ∨ canonB (beN (l.take 8)) ≠ beN (l.take 8) then .error 22 else .ok (beN (l.take 8), l.drop 8)) := Lib.hid (by unfold floatD; rw [if_neg (by omega)])
  have HL := Lib.hid hl
  generalize floatD m l = x at *
  generalize l.take 8 = t at *
  generalize l.drop 8 = rest at *
  clear hR hm hl
  go_enter Tryd.func89, Tryd.ntmps89
  go_wp2_with fail
  refine HT.out.mono ?_
  rintro e w1 h
  rw [if_pos HL.out] at h
  obtain ⟨out, rfl, hb, hr, hk⟩ := h
  have HR := Lib.hid hr
  have HK := Lib.hid hk
  rcases hb with ⟨_, h0⟩ | ⟨a, cap, rfl, hcap, _, hSa, hcells⟩
  · rw [h0] at ht8; simp at ht8
  have HC := Lib.hid hcells
  clear hr hk HT hcells hSa
  rw [ht8] at hcap ⊢
  go_wp2_with fail
  go_loopw [5, 12] (fun b i wr => ∃ k : Nat, k ≤ 8 ∧ i = .int .i64 k ∧ b = .int .u64 (beN (t.take k)) ∧ wr = w1) (fun _ i _ => 8 - (intOf i).toNat)
  case atStart => exact ⟨0, by omega, rfl, rfl, rfl⟩
  case round =>
    obtain ⟨k, hk, rfl, rfl, rfl⟩ := hrel
    by_cases h8 : k < 8
    · have hkt : t[k]? = some (t[k]'(by omega)) := List.getElem?_eq_getElem (by omega)
      have hcell := HC.out k (.int .u8 (t[k]'(by omega)).toNat) (by unfold bv; rw [List.getElem?_map, hkt]; rfl)
      have hc256 := (t[k]'(by omega)).toNat_lt
      have HB := Lib.hid (beN_snoc (t.take k) (t[k]'(by omega)))
      have HTK : Hid (t.take (k + 1) = t.take k ++ [t[k]'(by omega)]) := Lib.hid (List.take_succ_eq_append_getElem (by omega))
      have hbl : beN (t.take k) < 72057594037927936 := by
        have := beN_lt 7 (t.take k) (by rw [List.length_take]; omega)
        simpa using this
      generalize (t[k]'(by omega)).toNat = c at *
      generalize hbx : beN (t.take k) = bx at *
      have hor := or_byte bx c hbl (by omega)
      go_wp2_with fail
      exact ⟨⟨k + 1, by omega, by go_num, congrArg (Value.int .u64) (by rw [HTK.out, HB.out]; push_cast; rfl), trivial⟩, by simp [intOf]; omega⟩
    · have hk8 : k = 8 := by omega
      subst hk8
      have htt : t.take 8 = t := List.take_of_length_le (by omega)
      rw [htt]
      clear htt
      have hbl : beN t < 18446744073709551616 := by
        have := beN_lt 8 t (by omega)
        simpa using this
      have HBL := Lib.hid hbl
      generalize beN t = bx at *
      have h36 := fb36 bx
      have h19 := fb19
      have HCN := Lib.hid (canon_any bx)
      by_cases hm0 : m = 0
      · subst hm0
        by_cases hcb : canonB bx = bx
        · have hx := HD.out
          rw [if_neg (by intro h; rcases h with h | h; exact h rfl; exact h hcb)] at hx
          rw [hcb] at HCN
          clear HD hcb
          subst hx
          go_wp2_with fail
          refine (HCN.out _).mono ?_
          rintro e w' ⟨rfl, rfl⟩
          go_wp2_with fail
          go_ret
          exact ⟨rfl, HBL.out, HR.out, HK.out⟩
        · have hx := HD.out
          rw [if_pos (Or.inr hcb)] at hx
          have hne : ((canonB bx : Int) == (bx : Int)) = false := by rw [beq_eq_false_iff_ne]; omega
          generalize canonB bx = cb at *
          clear HD hcb
          subst hx
          go_wp2_with fail
          refine (HCN.out _).mono ?_
          rintro e w' ⟨rfl, rfl⟩
          go_wp2_with fail
          exact ⟨rfl, rfl, HK.out⟩
      · have hm1 : ((m : Int) == 0) = false := by rw [beq_eq_false_iff_ne]; omega
        have hx := HD.out
        rw [if_pos (Or.inl hm0)] at hx
        generalize canonB bx = cb at *
        clear HD
        subst hx
        go_wp2_with fail
        refine (HCN.out _).mono ?_
        rintro e w' ⟨rfl, rfl⟩
        go_wp2_with fail
        exact ⟨rfl, rfl, HK.out⟩
theorem float_any (S : Nat → Prop) (rb m : Nat) (l : List UInt8) (w : World) (hm : m < 18446744073709551616) (hR : RestAt S rb w l) :
    Calls Tryd.prog 89 #[.pointer (some ⟨rb, 0, none⟩), .int .u64 m] w (FloatGives S rb w (floatD m l)) := by
  by_cases hl : l.length < 8
  · have e : floatD m l = .error 20 := by unfold floatD; rw [if_pos hl]
    rw [e]; exact float_short S rb m l w hl hR
  · exact float_long S rb m l w (by omega) hm hR
end Go.Proofs.YtdolonkeanlaoaaDoor
namespace Go.Proofs.YtdolonkeanlaoaaDoor
open Go.RowKit

set_option maxRecDepth 100000 in
set_option maxHeartbeats 1000000 in
theorem clone_any (S : Nat → Prop) (v : Value) (l : List UInt8) (w : World) (hl : l.length ≤ 1048576) (hS : ∀ k, S k → k < w.heap.size) (hb : BytesC S w v l) :
    Calls Tryd.prog 82 #[v] w fun e w' => ∃ v', e = .returned v' ∧ BytesC (fun k => w.heap.size ≤ k ∧ k < w'.heap.size) w' v' l ∧ Below w.heap.size w w' := by
  obtain ⟨i0, hi, hz0, hz1, hz2⟩ := info_parts Tryd.info5
  have hb2 : BytesC S (w.alloc (.cells #[] 5)) v l := hb.kept (fun k hk => ⟨hk, Below.heap_alloc w _ k (hS k hk)⟩)
  have hq := run_eql_nil
  rcases hb with ⟨rfl, rfl⟩ | ⟨a, cap, rfl, hcap, hcm, hSa, hcells⟩
  · clear hb2
    go_enter Tryd.func82, Tryd.ntmps82
    go_wp2_with fail
    go_ret
    exact ⟨_, rfl, Or.inl ⟨rfl, rfl⟩, Below.refl _ _⟩
  · have HB := Lib.hid hb2
    have HO := Lib.hid (own_empty w)
    clear hcells hb2
    go_enter Tryd.func82, Tryd.ntmps82
    go_wp2_with (at_builtin; refine wpList_own_src _ rfl _ _ 22 22 rfl w.heap.size 5 i0 (.int .u8 0) 1 1 Tryd.underlying22 hi hz0 hz1 hz2 rfl (by decide) _ _ _ rfl HO.out _ _ _ rfl HB.out.srcC ?c3 ?c4 ?c5 ?_)
    case c3 => simp; unfold maxLen; omega
    case c4 => simp; omega
    case c5 => simp
    intro v2 w2 hown2 hg2
    have hown : Own w2 w.heap.size v2 l := own_more' (l := []) (by simp) hown2
    have hgr := ((Grew.alloc w (.slice (some ⟨w.heap.size, 0, none⟩) 0 0) _).trans hg2)
    have hbl : Below w.heap.size w w2 := (Below.refl _ w).grown hgr.gb (Nat.le_refl _) (fun k hk => by simp [Value.ownBlock] at hk; omega)
    have HV := Lib.hid (own_c hown)
    have HBL := Lib.hid hbl
    clear hown hgr hbl hown2 hg2
    go_wp2_with fail
    go_ret
    exact ⟨v2, rfl, HV.out, HBL.out⟩
/-- The memory of a value, so many levels deep; all of it in blocks of S. -/
def ListS (S : Nat → Prop) (w : World) (R : Value → Val → Prop) (v : Value) (l : List Val) : Prop :=
  (v = .slice none 0 0 ∧ l = []) ∨ ∃ g o cap, v = .slice (some ⟨g, o, none⟩) l.length cap ∧ l.length ≤ cap ∧ cap ≤ maxLen ∧ S g ∧
    ∀ j x, l[j]? = some x → ∃ c0 c1 c2 c3 c4, w.cell? ⟨g, o + j * 5, none⟩ = some c0 ∧ w.cell? ⟨g, o + j * 5 + 1, none⟩ = some c1 ∧ w.cell? ⟨g, o + j * 5 + 2, none⟩ = some c2 ∧
      w.cell? ⟨g, o + j * 5 + 3, none⟩ = some c3 ∧ w.cell? ⟨g, o + j * 5 + 4, none⟩ = some c4 ∧ R (.agg #[c0, c1, c2, c3, c4]) x
def ReadsS (S : Nat → Prop) (w : World) : Nat → Value → Val → Prop
  | 0, v, .mk k u _ f _ => ∃ a1 n1 c1 a2 n2 c2, v = .agg #[.int .i64 k, .int .u64 u, .slice a1 n1 c1, .float .f64 f, .slice a2 n2 c2]
  | n + 1, v, .mk k u b f l => ∃ vb vl, v = .agg #[.int .i64 k, .int .u64 u, vb, .float .f64 f, vl] ∧ u < 18446744073709551616 ∧ f < 18446744073709551616 ∧
    b.length ≤ 1048576 ∧ l.length ≤ 1048576 ∧ BytesC S w vb b ∧ ListS S w (ReadsS S w n) vl l
theorem ReadsS.kept {S S' : Nat → Prop} {w w' : World} (hk : ∀ k, S k → S' k ∧ w'.heap[k]? = w.heap[k]?) : ∀ (n : Nat) (v : Value) (x : Val), ReadsS S w n v x → ReadsS S' w' n v x
  | 0, v, .mk .., h => h
  | n + 1, v, .mk .., h => by
    obtain ⟨vb, vl, h1, h2, h3, h4, h5, h6, h7⟩ := h
    refine ⟨vb, vl, h1, h2, h3, h4, h5, h6.kept hk, ?_⟩
    rcases h7 with h7 | ⟨g, o, cap, e1, e2, e3, e4, e5⟩
    · exact Or.inl h7
    · refine Or.inr ⟨g, o, cap, e1, e2, e3, (hk g e4).1, fun j x hj => ?_⟩
      obtain ⟨c0, c1, c2, c3, c4, d0, d1, d2, d3, d4, hr⟩ := e5 j x hj
      have hc : ∀ i, w'.cell? ⟨g, i, none⟩ = w.cell? ⟨g, i, none⟩ := fun i => World.cell?_of_block (w := w) (hk g e4).2
      exact ⟨c0, c1, c2, c3, c4, (hc _).trans d0, (hc _).trans d1, (hc _).trans d2, (hc _).trans d3, (hc _).trans d4, ReadsS.kept hk n _ _ hr⟩
theorem ReadsS.into {S : Nat → Prop} {B : Nat} {w : World} (hS : ∀ k, S k → k < B) : ∀ (n : Nat) (v : Value) (x : Val), ReadsS S w n v x → Reads B w n v x
  | 0, v, .mk .., h => h
  | n + 1, v, .mk .., h => by
    obtain ⟨vb, vl, h1, h2, h3, h4, h5, h6, h7⟩ := h
    refine ⟨vb, vl, h1, h2, h3, h4, h5, h6.into hS, ?_⟩
    rcases h7 with h7 | ⟨g, o, cap, e1, e2, e3, e4, e5⟩
    · exact Or.inl ⟨none, 0, h7.1, h7.2⟩
    · refine Or.inr ⟨g, o, cap, e1, hS g e4, fun j x hj => ?_⟩
      obtain ⟨c0, c1, c2, c3, c4, d0, d1, d2, d3, d4, hr⟩ := e5 j x hj
      exact ⟨c0, c1, c2, c3, c4, d0, d1, d2, d3, d4, ReadsS.into hS n _ _ hr⟩
/-- What is read. -/
def listD (g : List UInt8 → Except Int (Val × List UInt8)) : Nat → List UInt8 → Except Int (List Val × List UInt8)
  | 0, l => .ok ([], l)
  | m + 1, l => match g l with
    | .ok (x, r) => match listD g m r with
      | .ok (xs, r') => .ok (x :: xs, r')
      | .error c => .error c
    | .error c => .error c
def valD : Nat → List UInt8 → Except Int (Val × List UInt8)
  | 0, _ => .error 24
  | n + 1, l => match headD l with
    | .error c => .error c
    | .ok (k, m, r) =>
      if k = 0 then .ok (.mk 0 m [] 0 [], r)
      else if k = 1 then (if r.length < m then .error 20 else .ok (.mk 1 0 (r.take m) 0 [], r.drop m))
      else if k = 2 then (match floatD m r with
        | .ok (f, r') => .ok (.mk 2 0 [] f [], r')
        | .error c => .error c)
      else match listD (valD n) m r with
        | .ok (xs, r') => .ok (.mk 3 0 [] 0 xs, r')
        | .error c => .error c
theorem headLoop_less : ∀ (l : List UInt8) (s n : Nat) {m : Nat} {r : List UInt8}, headLoop s n l = .ok (m, r) → r.length < l.length
  | [], s, n, m, r, h => by simp only [headLoop] at h; cases h
  | p :: l, s, n, m, r, h => by
    simp only [headLoop] at h
    split at h
    · cases h
    split at h
    · have := headLoop_less l _ _ h
      simp; omega
    · injection h with h
      injection h with _ h
      subst h; simp
theorem headD_less {l r : List UInt8} {k m : Nat} (h : headD l = .ok (k, m, r)) : r.length < l.length := by
  cases l with
  | nil => simp only [headD] at h; cases h
  | cons c l =>
    simp only [headD] at h
    split at h
    · cases hl : headLoop 5 (c.toNat % 128 / 4) l with
      | error e => rw [hl] at h; cases h
      | ok y =>
        obtain ⟨n, r'⟩ := y
        rw [hl] at h
        injection h with h
        injection h with _ h
        injection h with _ h
        subst h
        have := headLoop_less l _ _ hl
        simp; omega
    · injection h with h
      injection h with _ h
      injection h with _ h
      subst h; simp
theorem listD_less {g : List UInt8 → Except Int (Val × List UInt8)} (hg : ∀ {l x r}, g l = .ok (x, r) → r.length < l.length) : ∀ (m : Nat) (l : List UInt8) {xs : List Val} {r : List UInt8}, listD g m l = .ok (xs, r) → r.length + m ≤ l.length ∧ xs.length = m
  | 0, l, xs, r, h => by simp only [listD] at h; injection h with h; injection h with h1 h2; subst h1 h2; simp
  | m + 1, l, xs, r, h => by
    simp only [listD] at h
    cases hl : g l with
    | error c => rw [hl] at h; cases h
    | ok y =>
      obtain ⟨x, r1⟩ := y
      rw [hl] at h
      simp only at h
      cases hm : listD g m r1 with
      | error c => rw [hm] at h; cases h
      | ok z =>
        obtain ⟨ys, r2⟩ := z
        rw [hm] at h
        injection h with h
        injection h with h1 h2
        subst h1 h2
        have a := hg hl
        have b := listD_less hg m r1 hm
        simp; omega
theorem valD_less : ∀ {n : Nat} {l : List UInt8} {x : Val} {r : List UInt8}, valD n l = .ok (x, r) → r.length < l.length
  | 0, _, _, _, h => by simp only [valD] at h; cases h
  | n + 1, l, x, r, h => by
    simp only [valD] at h
    cases hh : headD l with
    | error c => rw [hh] at h; cases h
    | ok y =>
      obtain ⟨k, m, r1⟩ := y
      have hl := headD_less hh
      rw [hh] at h
      simp only at h
      split at h
      · injection h with h; injection h with _ h; subst h; exact hl
      split at h
      · split at h
        · cases h
        · injection h with h; injection h with _ h; subst h; rw [List.length_drop]; omega
      split at h
      · cases hf : floatD m r1 with
        | error c => rw [hf] at h; cases h
        | ok z =>
          obtain ⟨f, r2⟩ := z
          rw [hf] at h
          injection h with h; injection h with _ h; subst h
          unfold floatD at hf
          split at hf
          · cases hf
          split at hf
          · cases hf
          · injection hf with hf; injection hf with _ hf; subst hf; rw [List.length_drop]; omega
      · cases hd : listD (valD n) m r1 with
        | error c => rw [hd] at h; cases h
        | ok z =>
          obtain ⟨xs, r2⟩ := z
          rw [hd] at h
          injection h with h; injection h with _ h; subst h
          have := (listD_less (fun e => valD_less e) m r1 hd).1
          omega
end Go.Proofs.YtdolonkeanlaoaaDoor
namespace Go.Proofs.YtdolonkeanlaoaaDoor
open Go.RowKit

theorem ListS.shape {S : Nat → Prop} {w : World} {R : Value → Val → Prop} {v : Value} {l : List Val} (h : ListS S w R v l) : ∃ a cap, v = .slice a l.length cap := by
  rcases h with ⟨rfl, rfl⟩ | ⟨g, o, cap, rfl, _⟩
  · exact ⟨none, 0, rfl⟩
  · exact ⟨_, _, rfl⟩
theorem ReadsS.shape {S : Nat → Prop} {w : World} : ∀ {n : Nat} {v : Value} {k : Int} {u : Nat} {b : List UInt8} {f : Nat} {l : List Val}, ReadsS S w n v (.mk k u b f l) →
    ∃ a1 n1 c1 a2 n2 c2, v = .agg #[.int .i64 k, .int .u64 u, .slice a1 n1 c1, .float .f64 f, .slice a2 n2 c2]
  | 0, _, _, _, _, _, _, h => h
  | _ + 1, _, _, _, _, _, _, ⟨vb, vl, h, _, _, _, _, h5, h6⟩ => by
    obtain ⟨a1, c1, rfl⟩ := h5.shape
    obtain ⟨a2, c2, rfl⟩ := h6.shape
    exact ⟨a1, _, c1, a2, _, c2, h⟩
/-- The five cells of a value. -/
structure Five where
  c0 : Value
  c1 : Value
  c2 : Value
  c3 : Value
  c4 : Value
def Five.flat (q : Five) : List Value := [q.c0, q.c1, q.c2, q.c3, q.c4]
def Five.agg (q : Five) : Value := .agg #[q.c0, q.c1, q.c2, q.c3, q.c4]
theorem flat_at : ∀ (qs : List Five) (j : Nat) (q : Five), qs[j]? = some q →
    (qs.flatMap Five.flat)[j * 5]? = some q.c0 ∧ (qs.flatMap Five.flat)[j * 5 + 1]? = some q.c1 ∧ (qs.flatMap Five.flat)[j * 5 + 2]? = some q.c2 ∧ (qs.flatMap Five.flat)[j * 5 + 3]? = some q.c3 ∧ (qs.flatMap Five.flat)[j * 5 + 4]? = some q.c4
  | [], j, q, h => by simp at h
  | p :: qs, 0, q, h => by
    simp at h; subst h
    exact ⟨rfl, rfl, rfl, rfl, rfl⟩
  | p :: qs, j + 1, q, h => by
    have ih := flat_at qs j q (by simpa using h)
    have e : ∀ i, ((p :: qs).flatMap Five.flat)[(j + 1) * 5 + i]? = (qs.flatMap Five.flat)[j * 5 + i]? := by
      intro i
      rw [List.flatMap_cons, List.getElem?_append_right (by simp [Five.flat]; omega)]
      congr 1
      simp [Five.flat]; omega
    exact ⟨(e 0).trans ih.1, (e 1).trans ih.2.1, (e 2).trans ih.2.2.1, (e 3).trans ih.2.2.2.1, (e 4).trans ih.2.2.2.2⟩
theorem flat_len (qs : List Five) : (qs.flatMap Five.flat).length = qs.length * 5 := by
  induction qs with
  | nil => rfl
  | cons q qs ih => rw [List.flatMap_cons, List.length_append, ih]; simp [Five.flat]; omega
theorem Tryd.info53 : (Tryd.prog.info? 53).map (fun i => (i.zero, i.size, i.bytes)) = some (some (.agg #[.int .i64 0, .int .u64 0, .slice none 0 0, .float .f64 0, .slice none 0 0]), 5, 72) := by kernel_rfl
theorem five_src (w : World) (k u : Int) (a1 a2 : Option Addr) (n1 c1 n2 c2 fb : Nat) : Src Tryd.prog 5 51 (.slice (some ⟨w.heap.size, 0, none⟩) 1 1) 1 [.int .i64 k, .int .u64 u, .slice a1 n1 c1, .float .f64 fb, .slice a2 n2 c2]
    (w.alloc (.cells #[.int .i64 k, .int .u64 u, .slice a1 n1 c1, .float .f64 fb, .slice a2 n2 c2] 53)) := by
  refine Src.ofSlice _ Tryd.underlying51 _ 1 1 _ rfl (fun j v hj => ?_) (fun v hv => ?_)
  · have e : (⟨w.heap.size, 0, none⟩ : Addr).add j = ⟨w.heap.size, j, none⟩ := by simp [Addr.add]; omega
    rw [e, World.cell?_alloc_mark]
    simpa using hj
  · simp at hv
    rcases hv with rfl | rfl | rfl | rfl | rfl <;> rfl
def ValGives (S : Nat → Prop) (rb : Nat) (w : World) (n : Nat) (r : Except Int (Val × List UInt8)) (e : Ending) (w' : World) : Prop :=
  match r with
  | .ok (x, l) => ∃ v, e = .returned v ∧ ReadsS (fun k => w.heap.size ≤ k ∧ k < w'.heap.size) w' n v x ∧ RestAt S rb w' l ∧ w.grownBy w' (some rb)
  | .error c => RPanics rb w c e w'
def ListGives (S : Nat → Prop) (rb : Nat) (w : World) (n : Nat) (r : Except Int (List Val × List UInt8)) (e : Ending) (w' : World) : Prop :=
  match r with
  | .ok (xs, l) => ∃ v, e = .returned v ∧ ListS (fun k => w.heap.size ≤ k ∧ k < w'.heap.size) w' (ReadsS (fun k => w.heap.size ≤ k ∧ k < w'.heap.size) w' n) v xs ∧ RestAt S rb w' l ∧ w.grownBy w' (some rb)
  | .error c => RPanics rb w c e w'
def ValueOk (n : Nat) : Prop := ∀ (S : Nat → Prop) (rb : Nat) (l : List UInt8) (a : Nat) (w : World), a + n = 16 → l.length ≤ 1048576 → RestAt S rb w l →
    Calls Tryd.prog 78 #[.pointer (some ⟨rb, 0, none⟩), .int .i64 a] w (ValGives S rb w n (valD n l))
/-- The rows read so far, and their values. -/
structure Rows5 (B : Nat) (w : World) (n : Nat) (v : Value) (qs : List Five) (ys : List Val) : Prop where
  own : w.ownsRow B 53 5 v qs.length (qs.flatMap Five.flat)
  len : qs.length = ys.length
  each : ∀ (j : Nat) (q : Five) (y : Val), qs[j]? = some q → ys[j]? = some y → ReadsS (fun k => B ≤ k ∧ k < w.heap.size ∧ v.ownBlock ≠ some k) w n q.agg y
theorem Rows5.nil (B : Nat) (w : World) (n : Nat) : Rows5 B w n (.slice none 0 0) [] [] := ⟨World.ownsRow_nil _ _ _ _, rfl, fun j q y h _ => by simp at h⟩
/-- A value more is read, and stands behind the others. -/
theorem Rows5.more {B : Nat} {w w2 w4 : World} {n rb : Nat} {v v' : Value} {qs : List Five} {ys : List Val} {q : Five} {y : Val} {o : Obj} (h : Rows5 B w n v qs ys) (hB : B ≤ w.heap.size) (hrb : rb < B) (hk : w.grownBy w2 (some rb))
    (hy : ReadsS (fun k => w.heap.size ≤ k ∧ k < w2.heap.size) w2 n q.agg y) (hg : Grew (w2.alloc o) w4 v v') (hown : w4.ownsRow B 53 5 v' (qs.length + 1) (qs.flatMap Five.flat ++ q.flat)) : Rows5 B w4 n v' (qs ++ [q]) (ys ++ [y]) := by
  have hs2 := hk.size
  have hs4 := hg.size
  simp at hs4
  have hvb : ∀ k, v.ownBlock = some k → B ≤ k ∧ k < w.heap.size := fun k hk => World.ownsRow.lt h.own k hk
  have keep : ∀ k, B ≤ k → k < w2.heap.size → v.ownBlock ≠ some k → (B ≤ k ∧ k < w4.heap.size ∧ v'.ownBlock ≠ some k) ∧ w4.heap[k]? = w2.heap[k]? := by
    intro k k1 k2 k3
    refine ⟨⟨k1, by omega, fun e => ?_⟩, ?_⟩
    · rcases hg.own k e with e2 | e2
      · exact k3 e2
      · simp at e2; omega
    · rw [hg.gb.block k (by simp; omega) (fun e => k3 e.symm), Below.heap_alloc _ _ _ k2]
  refine ⟨?_, by simp [h.len], fun j p z hp hz => ?_⟩
  · rw [List.flatMap_append, List.length_append]; simpa using hown
  · by_cases hj : j < qs.length
    · rw [List.getElem?_append_left hj] at hp
      rw [List.getElem?_append_left (by rw [← h.len]; exact hj)] at hz
      refine ReadsS.kept (fun k hk1 => ?_) n _ _ (h.each j p z hp hz)
      obtain ⟨k1, k2, k3⟩ := hk1
      have a := keep k k1 (by omega) k3
      refine ⟨a.1, a.2.trans ?_⟩
      exact hk.block k k2 (fun e => by injection e with e; omega)
    · have hj2 : j = qs.length := by
        have := (List.getElem?_eq_some_iff.1 hp).1
        simp at this; omega
      subst hj2
      rw [List.getElem?_append_right (Nat.le_refl _), Nat.sub_self] at hp
      rw [h.len, List.getElem?_append_right (Nat.le_refl _), Nat.sub_self] at hz
      simp at hp hz
      subst hp hz
      refine ReadsS.kept (fun k hk1 => ?_) n _ _ hy
      exact keep k (by omega) hk1.2 (fun e => by have := hvb k e; omega)
theorem Rows5.list {B : Nat} {w : World} {n : Nat} {v : Value} {qs : List Five} {ys : List Val} (h : Rows5 B w n v qs ys) : ListS (fun k => B ≤ k ∧ k < w.heap.size) w (ReadsS (fun k => B ≤ k ∧ k < w.heap.size) w n) v ys := by
  rcases h.own.2 with ⟨rfl, hn⟩ | ⟨g, cap, cur, rfl, hB, hg, hnc, hcm, _⟩
  · refine Or.inl ⟨rfl, ?_⟩
    exact List.length_eq_zero_iff.1 (by rw [← h.len]; exact hn)
  · refine Or.inr ⟨g, 0, cap, by rw [h.len], by rw [← h.len]; exact hnc, hcm, ⟨hB, (Array.getElem?_eq_some_iff.1 hg).1⟩, fun j y hy => ?_⟩
    have hj : j < qs.length := by rw [h.len]; exact (List.getElem?_eq_some_iff.1 hy).1
    have hq : qs[j]? = some qs[j] := List.getElem?_eq_getElem hj
    obtain ⟨f0, f1, f2, f3, f4⟩ := flat_at qs j _ hq
    have hc := World.ownsRow.cells h.own (g := g) rfl
    have ea : ∀ i, (⟨g, 0, none⟩ : Addr).add i = ⟨g, 0 + i, none⟩ := fun i => by simp [Addr.add]; omega
    have d0 := hc _ _ f0
    have d1 := hc _ _ f1
    have d2 := hc _ _ f2
    have d3 := hc _ _ f3
    have d4 := hc _ _ f4
    rw [ea] at d0 d1 d2 d3 d4
    refine ⟨_, _, _, _, _, d0, ?_, ?_, ?_, ?_, ReadsS.kept (fun k hk => ⟨⟨hk.1, hk.2.1⟩, rfl⟩) n _ _ (h.each j _ y hq hy)⟩
    · rw [← d1]; congr 2
    · rw [← d2]; congr 2
    · rw [← d3]; congr 2
    · rw [← d4]; congr 2
end Go.Proofs.YtdolonkeanlaoaaDoor
namespace Go.Proofs.YtdolonkeanlaoaaDoor
open Go.RowKit

theorem RestAt.kept {S : Nat → Prop} {rb : Nat} {w w' : World} {l : List UInt8} (h : RestAt S rb w l) (hk : ∀ k, k < w.heap.size → S k ∨ k = rb → w'.heap[k]? = w.heap[k]?) (hs : w.heap.size ≤ w'.heap.size) : RestAt S rb w' l := by
  obtain ⟨v, h1, h2, h3, h4, h5, h6⟩ := h
  have e := hk rb h6 (Or.inr rfl)
  exact ⟨v, (World.cell?_of_block (w := w) e).trans h1, (frozen_block e).trans h2, h3.kept (fun k hS => ⟨hS, hk k (h5 k hS) (Or.inl hS)⟩), h4, fun k hS => by have := h5 k hS; omega, by omega⟩
def listAcc (ys : List Val) (r : Except Int (List Val × List UInt8)) : Except Int (List Val × List UInt8) :=
  match r with
  | .ok (xs, l) => .ok (ys ++ xs, l)
  | .error c => .error c
theorem listAcc_more (ys : List Val) (x : Val) (r : Except Int (List Val × List UInt8)) : listAcc (ys ++ [x]) r = listAcc ys (match r with
      | .ok (xs, l) => .ok (x :: xs, l)
      | .error c => .error c) := by
  cases r with
  | ok p => simp [listAcc]
  | error c => rfl
set_option maxRecDepth 100000 in
set_option maxHeartbeats 2000000 in
theorem list_ok (n : Nat) (hIH : ValueOk n) (S : Nat → Prop) (rb m : Nat) (l : List UInt8) (a : Nat) (w : World) (ha : a + (n + 1) = 16) (hm : m < 18446744073709551616) (hl : l.length ≤ 1048576) (hR : RestAt S rb w l) :
    Calls Tryd.prog 90 #[.pointer (some ⟨rb, 0, none⟩), .int .u64 m, .int .i64 a] w (ListGives S rb w n (listD (valD n) m l)) := by
  obtain ⟨i0, hi, hz0, hz1, hz2⟩ := info_parts Tryd.info53
  have HH := Lib.hid hIH
  have HM := Lib.hid hm
  have HR := Lib.hid hR
  have hrb : rb < w.heap.size := hR.choose_spec.2.2.2.2.2
  have hSl : ∀ k, S k → k < w.heap.size := hR.choose_spec.2.2.2.2.1
  have HSL := Lib.hid hSl
  generalize hx : listD (valD n) m l = x
  have HX := Lib.hid hx
  clear hIH hm hR hx hSl
  go_enter Tryd.func90, Tryd.ntmps90
  go_wp2_with fail
  go_loopw [7, 9] (fun v i wr => ∃ (k : Nat) (qs : List Five) (ys : List Val) (l' : List UInt8), k ≤ m ∧ i = .int .u64 k ∧ qs.length = k ∧ l'.length + k ≤ l.length ∧ Rows5 w.heap.size wr n v qs ys ∧ RestAt S rb wr l' ∧ w.grownBy wr (some rb) ∧ listAcc ys (listD (valD n) (m - k) l') = x)
    (fun _ i _ => m - (intOf i).toNat)
  case atStart =>
    refine ⟨0, [], [], l, Nat.zero_le _, rfl, rfl, by omega, Rows5.nil _ _ _, HR.out, kb_refl _ _, ?_⟩
    rw [Nat.sub_zero, HX.out]
    cases x with
    | ok p => rfl
    | error c => rfl
  case round =>
    obtain ⟨k, qs, ys, l', hk, rfl, hqk, hlk, hrows, hrest, hgb, hacc⟩ := hrel
    have hsz := hgb.size
    have HRW := Lib.hid hrows
    have HRS := Lib.hid hrest
    have HGB := Lib.hid hgb
    have HAC := Lib.hid hacc
    have HQK := Lib.hid hqk
    clear hrows hrest hgb hacc hqk
    by_cases hlt : k < m
    · have hwc := HH.out S rb l' (a + 1) wr (by omega) (by omega) HRS.out
      have e : ((a + 1 : Nat) : Int) = (a : Int) + 1 := by omega
      rw [e] at hwc
      have hac := HAC.out
      obtain ⟨d, hd⟩ : ∃ d, m - k = d + 1 := ⟨m - k - 1, by omega⟩
      rw [hd] at hac
      simp only [listD] at hac
      cases hy : valD n l' with
      | error c =>
        rw [hy] at hac hwc
        simp only [listAcc] at hac
        subst hac
        have HC := Lib.hid hwc
        clear hwc e hy hd
        go_wp2_with fail
        refine HC.out.mono ?_
        rintro e w2 ⟨rfl, hg2⟩
        go_wp2_with fail
        exact ⟨rfl, rfl, kb_trans HGB.out hg2⟩
      | ok y =>
        obtain ⟨y, l2⟩ := y
        rw [hy] at hac hwc
        have hless := valD_less hy
        rw [show d = m - (k + 1) by omega] at hac
        have HAC2 := Lib.hid hac
        have HC := Lib.hid hwc
        clear hwc e hy hac hd
        go_wp2_with fail
        refine HC.out.mono ?_
        rintro e w2 ⟨v2, rfl, hy2, hr2, hg2⟩
        obtain ⟨yk, yu, yb, yf, yl⟩ := y
        obtain ⟨a1, n1, c1, a2, n2, c2, rfl⟩ := hy2.shape
        have hs2 := hg2.size
        have HY := Lib.hid hy2
        have HR2 := Lib.hid hr2
        have HG2 := Lib.hid hg2
        have hown0 : w2.ownsRow w.heap.size 53 5 u7 qs.length (qs.flatMap Five.flat) := by
          have h0 := HRW.out.own
          refine ⟨h0.1, ?_⟩
          rcases h0.2 with h2 | ⟨g, cap, cur, e1, e2, e3, e4⟩
          · exact Or.inl h2
          · refine Or.inr ⟨g, cap, cur, e1, e2, ?_, e4⟩
            rw [hg2.block g (Array.getElem?_eq_some_iff.1 e3).1 (fun e => by injection e with e; omega)]; exact e3
        have hqs : qs.length = k := HQK.out
        clear hy2 hr2 hg2
        go_wp2_with (at_builtin; refine wpList_own_src _ rfl _ _ 51 51 rfl w.heap.size 53 i0 _ 5 72 Tryd.underlying51 hi hz0 hz1 hz2 rfl (by decide) _ _ _ rfl (hown0.alloc _) _ 1 _ rfl (five_src _ _ _ _ _ _ _ _ _ _) ?c3 ?c4 ?c5 ?_)
        case c3 => unfold maxLen; omega
        case c4 => omega
        case c5 => simp; omega
        intro v4 w4 hown4 hg4
        rw [← HQK.out] at hown4
        have HN := Lib.hid (Rows5.more (q := ⟨_, _, _, _, _⟩) HRW.out hsz hrb HG2.out HY.out hg4 hown4)
        have hvb : ∀ k, u7.ownBlock = some k → w.heap.size ≤ k := fun k hk => (World.ownsRow.lt hown0 k hk).1
        have HG4 := Lib.hid (kb_grew (kb_alloc (kb_trans HGB.out HG2.out) _) hg4 (Nat.le_refl _) hvb)
        have hr4 : RestAt S rb w4 l2 := HR2.out.kept (fun j hj hS => by
          have hjw : j < w.heap.size := by rcases hS with hS | rfl; exact HSL.out j hS; exact hrb
          rw [hg4.gb.block j (by simp; omega) (fun e => by have := hvb j e.symm; omega), Below.heap_alloc _ _ _ hj]) (by have := hg4.size; simp at this; omega)
        have HR4 := Lib.hid hr4
        clear hown0 hown4 hg4 hvb hr4
        go_wp2_with fail
        go_roundw
        case rel => exact ⟨k + 1, _, _, l2, by omega, by go_num, by simp; omega, by omega, HN.out, HR4.out, HG4.out, by rw [listAcc_more]; exact HAC2.out⟩
        case measure => simp [intOf]; omega
    · have hkm : k = m := by omega
      subst hkm
      have hac := HAC.out
      rw [Nat.sub_self] at hac
      simp only [listD, listAcc, List.append_nil] at hac
      subst hac
      go_wp2_with fail
      go_ret
      exact ⟨_, rfl, HRW.out.list, HRS.out, HGB.out⟩
end Go.Proofs.YtdolonkeanlaoaaDoor
namespace Go.Proofs.YtdolonkeanlaoaaDoor
open Go.RowKit

/-- A value's five cells, in a block of their own. -/
theorem five_cells {w : World} {b : Nat} {c0 c1 c2 c3 c4 : Value} {t : TypeId} (h : w.heap[b]? = some (.cells #[c0, c1, c2, c3, c4] t (0, 0))) :
    (w.cell? ⟨b, 0, none⟩ = some c0 ∧ w.cell? ⟨b, 1, none⟩ = some c1 ∧ w.cell? ⟨b, 2, none⟩ = some c2 ∧ w.cell? ⟨b, 3, none⟩ = some c3 ∧ w.cell? ⟨b, 4, none⟩ = some c4) ∧
    (w.frozen? ⟨b, 0, none⟩ = false ∧ w.frozen? ⟨b, 1, none⟩ = false ∧ w.frozen? ⟨b, 2, none⟩ = false ∧ w.frozen? ⟨b, 3, none⟩ = false ∧ w.frozen? ⟨b, 4, none⟩ = false) := by
  refine ⟨⟨?_, ?_, ?_, ?_, ?_⟩, ⟨?_, ?_, ?_, ?_, ?_⟩⟩ <;> first | (unfold World.cell?; rw [h]; rfl) | (unfold World.frozen?; rw [h]; rfl)
set_option maxRecDepth 100000 in
set_option maxHeartbeats 1000000 in
theorem value_deep : ValueOk 0 := by
  intro S rb l a w ha hl hR
  have e : a = 16 := by omega
  subst e
  clear hR
  go_enter Tryd.func78, Tryd.ntmps78
  go_wp2
  exact ⟨rfl, rfl, World.grownBy_alloc w _ _⟩
theorem RestAt.alloc {S : Nat → Prop} {rb : Nat} {w : World} {l : List UInt8} (h : RestAt S rb w l) (o : Obj) : RestAt S rb (w.alloc o) l :=
  h.kept (fun k hk _ => Below.heap_alloc w o k hk) (by simp)
set_option maxRecDepth 100000 in
set_option maxHeartbeats 1000000 in
theorem value_head (n : Nat) (S : Nat → Prop) (rb : Nat) (l : List UInt8) (a : Nat) (w : World) (ha : a < 16) (hR : RestAt S rb w l) (c : Int) (hh : headD l = .error c) :
    Calls Tryd.prog 78 #[.pointer (some ⟨rb, 0, none⟩), .int .i64 a] w (ValGives S rb w n (.error c)) := by
  have HH := head_any S rb l (w.alloc (.cells #[.int .i64 0, .int .u64 0, .slice none 0 0, .float .f64 0, .slice none 0 0] 53)) (hR.alloc _)
  rw [hh] at HH
  have H := Lib.hid HH
  clear HH hR hh
  go_enter Tryd.func78, Tryd.ntmps78
  go_wp2_with fail
  refine H.out.mono ?_
  rintro e w1 ⟨rfl, hg⟩
  go_wp2_with fail
  exact ⟨rfl, rfl, kb_trans (World.grownBy_alloc w _ _) hg⟩
def set5 (w : World) (b : Nat) (v0 v1 v2 v3 v4 : Value) : World :=
  ((((w.setCell ⟨b, 0, none⟩ v0).setCell ⟨b, 1, none⟩ v1).setCell ⟨b, 2, none⟩ v2).setCell ⟨b, 3, none⟩ v3).setCell ⟨b, 4, none⟩ v4
theorem set5_size (w : World) (b : Nat) (v0 v1 v2 v3 v4 : Value) : (set5 w b v0 v1 v2 v3 v4).heap.size = w.heap.size := by simp [set5]
theorem set5_block (w : World) (b : Nat) (v0 v1 v2 v3 v4 : Value) (k : Nat) (h : k ≠ b) : (set5 w b v0 v1 v2 v3 v4).heap[k]? = w.heap[k]? := by
  unfold set5
  rw [Below.heap_setCell _ _ _ _ h, Below.heap_setCell _ _ _ _ h, Below.heap_setCell _ _ _ _ h, Below.heap_setCell _ _ _ _ h, Below.heap_setCell _ _ _ _ h]
theorem set5_cells {w : World} {b : Nat} {c0 c1 c2 c3 c4 : Value} (h0 : w.cell? ⟨b, 0, none⟩ = some c0) (h1 : w.cell? ⟨b, 1, none⟩ = some c1) (h2 : w.cell? ⟨b, 2, none⟩ = some c2) (h3 : w.cell? ⟨b, 3, none⟩ = some c3) (h4 : w.cell? ⟨b, 4, none⟩ = some c4) (v0 v1 v2 v3 v4 : Value) :
    (set5 w b v0 v1 v2 v3 v4).cell? ⟨b, 0, none⟩ = some v0 ∧ (set5 w b v0 v1 v2 v3 v4).cell? ⟨b, 1, none⟩ = some v1 ∧ (set5 w b v0 v1 v2 v3 v4).cell? ⟨b, 2, none⟩ = some v2 ∧ (set5 w b v0 v1 v2 v3 v4).cell? ⟨b, 3, none⟩ = some v3 ∧ (set5 w b v0 v1 v2 v3 v4).cell? ⟨b, 4, none⟩ = some v4 := by
  unfold set5
  refine ⟨?_, ?_, ?_, ?_, ?_⟩ <;> simp [go_sem, h0, h1, h2, h3, h4]
theorem set5_grown {w w1 : World} {row : Option Nat} {b : Nat} (h : w.grownBy w1 row) (hb : w.heap.size ≤ b) (v0 v1 v2 v3 v4 : Value) : w.grownBy (set5 w1 b v0 v1 v2 v3 v4) row :=
  kb_put (kb_put (kb_put (kb_put (kb_put h hb v0) hb v1) hb v2) hb v3) hb v4
theorem RestAt.set5 {S : Nat → Prop} {rb b : Nat} {w : World} {l : List UInt8} (h : RestAt S rb w l) (hb : b ≠ rb) (hS : ¬ S b) (v0 v1 v2 v3 v4 : Value) : RestAt S rb (set5 w b v0 v1 v2 v3 v4) l :=
  h.kept (fun k _ hk => set5_block _ _ _ _ _ _ _ _ (by rintro rfl; rcases hk with hk | hk; exact hS hk; exact hb hk)) (by rw [set5_size]; exact Nat.le_refl _)
set_option maxRecDepth 100000 in
set_option maxHeartbeats 1000000 in
theorem value_num (n : Nat) (S : Nat → Prop) (rb : Nat) (l r : List UInt8) (a m : Nat) (w : World) (ha : a < 16) (hR : RestAt S rb w l) (hh : headD l = .ok (0, m, r)) :
    Calls Tryd.prog 78 #[.pointer (some ⟨rb, 0, none⟩), .int .i64 a] w (ValGives S rb w (n + 1) (.ok (.mk 0 m [] 0 [], r))) := by
  have hst := run_storeF
  have HH := head_any S rb l (w.alloc (.cells #[.int .i64 0, .int .u64 0, .slice none 0 0, .float .f64 0, .slice none 0 0] 53)) (hR.alloc _)
  rw [hh] at HH
  have H := Lib.hid HH
  have hrb : rb < w.heap.size := hR.choose_spec.2.2.2.2.2
  have HS := Lib.hid hR.choose_spec.2.2.2.2.1
  clear HH hR hh
  go_enter Tryd.func78, Tryd.ntmps78
  go_wp2_with fail
  refine H.out.mono ?_
  rintro e w1 ⟨rfl, hk, hm, hr, hg⟩
  have hblk : w1.heap[w.heap.size]? = _ := (hg.block w.heap.size (by simp) (fun e => by injection e with e; omega)).trans (new_five w _ _)
  obtain ⟨⟨c0, c1, c2, c3, c4⟩, z0, z1, z2, z3, z4⟩ := five_cells hblk
  have HM := Lib.hid hm
  have HR := Lib.hid hr
  have HG := Lib.hid hg
  clear hm hr hg hblk hk
  go_wp2_with fail
  obtain ⟨r0, r1, r2, r3, r4⟩ := set5_cells c0 c1 c2 c3 c4 (.int .i64 0) (.int .u64 m) (.slice none 0 0) (.float .f64 0) (.slice none 0 0)
  have hfin := set5_grown (kb_trans (World.grownBy_alloc w _ _) HG.out) (Nat.le_refl _) (.int .i64 0) (.int .u64 m) (.slice none 0 0) (.float .f64 0) (.slice none 0 0)
  have hrest := RestAt.set5 HR.out (show w.heap.size ≠ rb by omega) (fun h => by have := HS.out _ h; omega) (.int .i64 0) (.int .u64 m) (.slice none 0 0) (.float .f64 0) (.slice none 0 0)
  unfold set5 at r0 r1 r2 r3 r4
  exact bodyPost_ret (v := .agg #[.int .i64 0, .int .u64 m, .slice none 0 0, .float .f64 0, .slice none 0 0]) (by simp [results, Tryd.results78, go_sem, r0, r1, r2, r3, r4]) rfl
    ⟨_, rfl, ⟨_, _, rfl, HM.out, by omega, by simp, by simp, Or.inl ⟨rfl, rfl⟩, Or.inl ⟨rfl, rfl⟩⟩, hrest, hfin⟩
/-- What is left to say once the answer's cells are written. -/
theorem value_fin {S : Nat → Prop} {rb : Nat} {w w3 : World} {n : Nat} {x : Val} {r : List UInt8} {v0 v1 v2 v3 v4 : Value} (hrb : rb < w.heap.size) (hS : ∀ k, S k → k < w.heap.size)
    (hx : ReadsS (fun k => w.heap.size < k ∧ k < w3.heap.size) w3 n (.agg #[v0, v1, v2, v3, v4]) x) (hr : RestAt S rb w3 r) (hg : w.grownBy w3 (some rb)) :
    ReadsS (fun k => w.heap.size ≤ k ∧ k < (set5 w3 w.heap.size v0 v1 v2 v3 v4).heap.size) (set5 w3 w.heap.size v0 v1 v2 v3 v4) n (.agg #[v0, v1, v2, v3, v4]) x ∧
    RestAt S rb (set5 w3 w.heap.size v0 v1 v2 v3 v4) r ∧ w.grownBy (set5 w3 w.heap.size v0 v1 v2 v3 v4) (some rb) :=
  ⟨ReadsS.kept (fun k hk => ⟨⟨by omega, by rw [set5_size]; exact hk.2⟩, set5_block _ _ _ _ _ _ _ _ (by omega)⟩) n _ _ hx, RestAt.set5 hr (by omega) (fun h => by have := hS _ h; omega) _ _ _ _ _, set5_grown hg (Nat.le_refl _) _ _ _ _ _⟩
set_option maxRecDepth 100000 in
set_option maxHeartbeats 1000000 in
theorem value_short (n : Nat) (S : Nat → Prop) (rb : Nat) (l r : List UInt8) (a m : Nat) (w : World) (ha : a < 16) (hR : RestAt S rb w l) (hh : headD l = .ok (1, m, r)) (hm : r.length < m) :
    Calls Tryd.prog 78 #[.pointer (some ⟨rb, 0, none⟩), .int .i64 a] w (ValGives S rb w (n + 1) (.error 20)) := by
  have HH := head_any S rb l (w.alloc (.cells #[.int .i64 0, .int .u64 0, .slice none 0 0, .float .f64 0, .slice none 0 0] 53)) (hR.alloc _)
  rw [hh] at HH
  have H := Lib.hid HH
  have HMR := Lib.hid hm
  clear HH hR hh hm
  go_enter Tryd.func78, Tryd.ntmps78
  go_wp2_with fail
  refine H.out.mono ?_
  rintro e w1 ⟨rfl, hk, hm, hr, hg⟩
  have HT := Lib.hid (take_any S rb m r w1 hm hr)
  have HG := Lib.hid hg
  clear hm hr hg hk
  go_wp2_with fail
  refine HT.out.mono ?_
  rintro e w2 h
  rw [if_neg (by have := HMR.out; omega)] at h
  obtain ⟨rfl, rfl⟩ := h
  go_wp2_with fail
  exact ⟨rfl, rfl, kb_trans (World.grownBy_alloc w _ _) HG.out⟩
set_option maxRecDepth 100000 in
set_option maxHeartbeats 1000000 in
theorem value_bytes (n : Nat) (S : Nat → Prop) (rb : Nat) (l r : List UInt8) (a m : Nat) (w : World) (ha : a < 16) (hl : l.length ≤ 1048576) (hR : RestAt S rb w l) (hh : headD l = .ok (1, m, r)) (hm : m ≤ r.length) :
    Calls Tryd.prog 78 #[.pointer (some ⟨rb, 0, none⟩), .int .i64 a] w (ValGives S rb w (n + 1) (.ok (.mk 1 0 (r.take m) 0 [], r.drop m))) := by
  have hst := run_storeF
  have hless := headD_less hh
  have HH := head_any S rb l (w.alloc (.cells #[.int .i64 0, .int .u64 0, .slice none 0 0, .float .f64 0, .slice none 0 0] 53)) (hR.alloc _)
  rw [hh] at HH
  have H := Lib.hid HH
  have HMR := Lib.hid hm
  have hrb : rb < w.heap.size := hR.choose_spec.2.2.2.2.2
  have HS := Lib.hid hR.choose_spec.2.2.2.2.1
  have htl : (r.take m).length ≤ 1048576 := by rw [List.length_take]; omega
  have HTL := Lib.hid htl
  clear HH hR hh hm hless htl
  generalize htk : r.take m = tk at *
  have HTK := Lib.hid htk
  clear htk
  go_enter Tryd.func78, Tryd.ntmps78
  go_wp2_with fail
  refine H.out.mono ?_
  rintro e w1 ⟨rfl, hk, hm, hr, hg⟩
  have hblk : w1.heap[w.heap.size]? = _ := (hg.block w.heap.size (by simp) (fun e => by injection e with e; omega)).trans (new_five w _ _)
  have hs1 := hg.size
  simp at hs1
  have HT := Lib.hid (take_any S rb m r w1 hm hr)
  have HB := Lib.hid hblk
  have HG := Lib.hid hg
  clear hm hr hg hk hblk
  go_wp2_with fail
  refine HT.out.mono ?_
  rintro e w2 h
  rw [if_pos HMR.out] at h
  obtain ⟨out, rfl, hb, hr2, hg2⟩ := h
  rw [HTK.out] at hb
  have hs2 := hg2.size
  have hblk2 := (hg2.block w.heap.size (by omega) (fun e => by injection e with e; omega)).trans HB.out
  have HC := Lib.hid (clone_any S out _ w2 HTL.out (fun k hk => by have := HS.out k hk; omega) hb)
  have HR2 := Lib.hid hr2
  have HB2 := Lib.hid hblk2
  have HG2 := Lib.hid (kb_trans HG.out hg2)
  clear hb hr2 hg2 hblk2
  go_wp2_with fail
  refine HC.out.mono ?_
  rintro e w3 ⟨v', rfl, hb3, hbl⟩
  have hs3 := hbl.size
  have hblk3 := (hbl.block w.heap.size (by omega)).trans HB2.out
  obtain ⟨⟨c0, c1, c2, c3, c4⟩, z0, z1, z2, z3, z4⟩ := five_cells hblk3
  obtain ⟨sa, sc, rfl⟩ := hb3.shape
  have HB3 := Lib.hid hb3
  have HBL := Lib.hid hbl
  clear hb3 hbl hblk3
  go_wp2_with fail
  obtain ⟨r0, r1, r2, r3, r4⟩ := set5_cells c0 c1 c2 c3 c4 (.int .i64 1) (.int .u64 0) (.slice sa tk.length sc) (.float .f64 0) (.slice none 0 0)
  have hfin := value_fin (w := w) (w3 := w3) (n := n + 1) (x := .mk 1 0 tk 0 []) (v0 := .int .i64 1) (v1 := .int .u64 0) (v2 := .slice sa tk.length sc) (v3 := .float .f64 0) (v4 := .slice none 0 0) hrb HS.out
    ⟨_, _, rfl, by omega, by omega, HTL.out, by simp, HB3.out.kept (fun k hk => ⟨⟨by omega, hk.2⟩, rfl⟩), Or.inl ⟨rfl, rfl⟩⟩
    (HR2.out.kept (fun k hk _ => HBL.out.block k hk) HBL.out.size)
    (kb_trans (kb_trans (World.grownBy_alloc w _ _) HG2.out) ⟨HBL.out.os, HBL.out.tape, HBL.out.output, HBL.out.size, fun k hk _ => HBL.out.block k hk⟩)
  unfold set5 at r0 r1 r2 r3 r4
  exact bodyPost_ret (v := .agg #[.int .i64 1, .int .u64 0, .slice sa tk.length sc, .float .f64 0, .slice none 0 0]) (by simp [results, Tryd.results78, go_sem, r0, r1, r2, r3, r4]) rfl ⟨_, rfl, hfin⟩
set_option maxRecDepth 100000 in
set_option maxHeartbeats 1000000 in
theorem value_real (n : Nat) (S : Nat → Prop) (rb : Nat) (l r : List UInt8) (a m : Nat) (w : World) (ha : a < 16) (hR : RestAt S rb w l) (hh : headD l = .ok (2, m, r)) :
    Calls Tryd.prog 78 #[.pointer (some ⟨rb, 0, none⟩), .int .i64 a] w (ValGives S rb w (n + 1) (match floatD m r with
        | .ok (f, r') => .ok (.mk 2 0 [] f [], r')
        | .error c => .error c)) := by
  have hst := run_storeF
  have HH := head_any S rb l (w.alloc (.cells #[.int .i64 0, .int .u64 0, .slice none 0 0, .float .f64 0, .slice none 0 0] 53)) (hR.alloc _)
  rw [hh] at HH
  have H := Lib.hid HH
  have hrb : rb < w.heap.size := hR.choose_spec.2.2.2.2.2
  have HS := Lib.hid hR.choose_spec.2.2.2.2.1
  clear HH hR hh
  generalize hy : floatD m r = y
  have HY := Lib.hid hy
  clear hy
  go_enter Tryd.func78, Tryd.ntmps78
  go_wp2_with fail
  refine H.out.mono ?_
  rintro e w1 ⟨rfl, hk, hm, hr, hg⟩
  have hblk : w1.heap[w.heap.size]? = _ := (hg.block w.heap.size (by simp) (fun e => by injection e with e; omega)).trans (new_five w _ _)
  have hs1 := hg.size
  simp at hs1
  have hfl := float_any S rb m r w1 hm hr
  rw [HY.out] at hfl
  have HT := Lib.hid hfl
  have HB := Lib.hid hblk
  have HG := Lib.hid hg
  clear hm hr hg hk hblk hfl
  cases y with
  | error c =>
    go_wp2_with fail
    refine HT.out.mono ?_
    rintro e w2 ⟨rfl, hg2⟩
    go_wp2_with fail
    exact ⟨rfl, rfl, kb_trans (kb_trans (World.grownBy_alloc w _ _) HG.out) hg2⟩
  | ok p =>
    obtain ⟨f, r'⟩ := p
    go_wp2_with fail
    refine HT.out.mono ?_
    rintro e w2 ⟨rfl, hf, hr2, hg2⟩
    have hs2 := hg2.size
    have hblk2 := (hg2.block w.heap.size (by omega) (fun e => by injection e with e; omega)).trans HB.out
    obtain ⟨⟨c0, c1, c2, c3, c4⟩, z0, z1, z2, z3, z4⟩ := five_cells hblk2
    have HF := Lib.hid hf
    have HR2 := Lib.hid hr2
    have HG2 := Lib.hid (kb_trans HG.out hg2)
    clear hr2 hg2 hblk2 hf
    go_wp2_with fail
    obtain ⟨r0, r1, r2, r3, r4⟩ := set5_cells c0 c1 c2 c3 c4 (.int .i64 2) (.int .u64 0) (.slice none 0 0) (.float .f64 f) (.slice none 0 0)
    have hfin := value_fin (w := w) (w3 := w2) (n := n + 1) (x := .mk 2 0 [] f []) (v0 := .int .i64 2) (v1 := .int .u64 0) (v2 := .slice none 0 0) (v3 := .float .f64 f) (v4 := .slice none 0 0) hrb HS.out
      ⟨_, _, rfl, by omega, HF.out, by simp, by simp, Or.inl ⟨rfl, rfl⟩, Or.inl ⟨rfl, rfl⟩⟩ HR2.out (kb_trans (World.grownBy_alloc w _ _) HG2.out)
    unfold set5 at r0 r1 r2 r3 r4
    exact bodyPost_ret (v := .agg #[.int .i64 2, .int .u64 0, .slice none 0 0, .float .f64 f, .slice none 0 0]) (by simp [results, Tryd.results78, go_sem, r0, r1, r2, r3, r4]) rfl ⟨_, rfl, hfin⟩
set_option maxRecDepth 100000 in
set_option maxHeartbeats 1000000 in
theorem value_list (n : Nat) (hIH : ValueOk n) (S : Nat → Prop) (rb : Nat) (l r : List UInt8) (a k m : Nat) (w : World) (ha : a + (n + 1) = 16) (hl : l.length ≤ 1048576) (hR : RestAt S rb w l) (hh : headD l = .ok (k, m, r)) (h0 : k ≠ 0) (h1 : k ≠ 1) (h2 : k ≠ 2) :
    Calls Tryd.prog 78 #[.pointer (some ⟨rb, 0, none⟩), .int .i64 a] w (ValGives S rb w (n + 1) (match listD (valD n) m r with
        | .ok (xs, r') => .ok (.mk 3 0 [] 0 xs, r')
        | .error c => .error c)) := by
  have hst := run_storeF
  have hless := headD_less hh
  have HH := head_any S rb l (w.alloc (.cells #[.int .i64 0, .int .u64 0, .slice none 0 0, .float .f64 0, .slice none 0 0] 53)) (hR.alloc _)
  rw [hh] at HH
  have H := Lib.hid HH
  have hrb : rb < w.heap.size := hR.choose_spec.2.2.2.2.2
  have HS := Lib.hid hR.choose_spec.2.2.2.2.1
  have hk0 : ((k : Int) == 0) = false := by rw [beq_eq_false_iff_ne]; omega
  have hk1 : ((k : Int) == 1) = false := by rw [beq_eq_false_iff_ne]; omega
  have hk2 : ((k : Int) == 2) = false := by rw [beq_eq_false_iff_ne]; omega
  have HI := Lib.hid hIH
  clear HH hR hh hIH
  generalize hy : listD (valD n) m r = y
  have HY := Lib.hid hy
  clear hy
  go_enter Tryd.func78, Tryd.ntmps78
  go_wp2_with fail
  refine H.out.mono ?_
  rintro e w1 ⟨rfl, hk, hm, hr, hg⟩
  have hblk : w1.heap[w.heap.size]? = _ := (hg.block w.heap.size (by simp) (fun e => by injection e with e; omega)).trans (new_five w _ _)
  have hs1 := hg.size
  simp at hs1
  have hfl := list_ok n HI.out S rb m r a w1 ha hm (by omega) hr
  rw [HY.out] at hfl
  have HT := Lib.hid hfl
  have HB := Lib.hid hblk
  have HG := Lib.hid hg
  clear hm hr hg hk hblk hfl
  cases y with
  | error c =>
    clear HY
    go_wp2_with fail
    refine HT.out.mono ?_
    rintro e w2 ⟨rfl, hg2⟩
    go_wp2_with fail
    exact ⟨rfl, rfl, kb_trans (kb_trans (World.grownBy_alloc w _ _) HG.out) hg2⟩
  | ok p =>
    obtain ⟨xs, r'⟩ := p
    have hxl : xs.length ≤ 1048576 := by
      have := listD_less (fun e => valD_less e) m r HY.out
      omega
    clear HY
    go_wp2_with fail
    refine HT.out.mono ?_
    rintro e w2 ⟨v2, rfl, hx, hr2, hg2⟩
    have hs2 := hg2.size
    have hblk2 := (hg2.block w.heap.size (by omega) (fun e => by injection e with e; omega)).trans HB.out
    obtain ⟨⟨c0, c1, c2, c3, c4⟩, z0, z1, z2, z3, z4⟩ := five_cells hblk2
    obtain ⟨sa, sc, rfl⟩ := hx.shape
    have HX := Lib.hid hx
    have HR2 := Lib.hid hr2
    have HG2 := Lib.hid (kb_trans HG.out hg2)
    clear hr2 hg2 hblk2 hx
    go_wp2_with fail
    obtain ⟨r0, r1, r2, r3, r4⟩ := set5_cells c0 c1 c2 c3 c4 (.int .i64 3) (.int .u64 0) (.slice none 0 0) (.float .f64 0) (.slice sa xs.length sc)
    have hfin := value_fin (w := w) (w3 := w2) (n := n + 1) (x := .mk 3 0 [] 0 xs) (v0 := .int .i64 3) (v1 := .int .u64 0) (v2 := .slice none 0 0) (v3 := .float .f64 0) (v4 := .slice sa xs.length sc) hrb HS.out
      (ReadsS.kept (S := fun k => w1.heap.size ≤ k ∧ k < w2.heap.size) (fun k hk => ⟨⟨by omega, hk.2⟩, rfl⟩) (n + 1) _ _ ⟨_, _, rfl, by omega, by omega, by simp, hxl, Or.inl ⟨rfl, rfl⟩, HX.out⟩) HR2.out (kb_trans (World.grownBy_alloc w _ _) HG2.out)
    unfold set5 at r0 r1 r2 r3 r4
    exact bodyPost_ret (v := .agg #[.int .i64 3, .int .u64 0, .slice none 0 0, .float .f64 0, .slice sa xs.length sc]) (by simp [results, Tryd.results78, go_sem, r0, r1, r2, r3, r4]) rfl ⟨_, rfl, hfin⟩
theorem value_ok : ∀ n, ValueOk n
  | 0 => value_deep
  | n + 1 => by
    intro S rb l a w ha hl hR
    simp only [valD]
    cases hh : headD l with
    | error c => exact value_head (n + 1) S rb l a w (by omega) hR c hh
    | ok p =>
      obtain ⟨k, m, r⟩ := p
      simp only
      by_cases h0 : k = 0
      · subst h0
        rw [if_pos rfl]; exact value_num n S rb l r a m w (by omega) hR hh
      rw [if_neg h0]
      by_cases h1 : k = 1
      · subst h1
        rw [if_pos rfl]
        by_cases hs : r.length < m
        · rw [if_pos hs]; exact value_short n S rb l r a m w (by omega) hR hh hs
        · rw [if_neg hs]; exact value_bytes n S rb l r a m w (by omega) hl hR hh (by omega)
      rw [if_neg h1]
      by_cases h2 : k = 2
      · subst h2
        rw [if_pos rfl]; exact value_real n S rb l r a m w (by omega) hR hh
      · rw [if_neg h2]; exact value_list n (value_ok n) S rb l r a k m w ha hl hR hh h0 h1 h2
end Go.Proofs.YtdolonkeanlaoaaDoor
