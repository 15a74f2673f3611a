/- Walks of writeBytes and writeFloat. -/
import Derived.Test.YtgppadnbfggkcaaB
namespace Go.Proofs.Ytgppadnbfggkcaa
open Go.RowKit

def nanB (b : Nat) : Bool := (FloatKind.f64.format.order b b != some .eq)
def canonB (b : Nat) : Nat := if nanB b = true then 9221120237041090560 else b
theorem canonB_lt {b : Nat} (h : b < 18446744073709551616) : canonB b < 18446744073709551616 := by unfold canonB; split <;> omega
theorem fb19 (b : Nat) (w : World) : (callFunc 19 #[.float .f64 b]).run Try.prog w = .ok (.value (.int .u64 b)) w := by
  rw [run_callFunc_extern (e := Extern.MathFloatBits.float64bits) Try.func19 (by kernel_rfl) (by kernel_rfl) (by kernel_rfl) (by kernel_rfl)]; rfl
theorem fb36 (n : Int) (w : World) : (callFunc 36 #[.int .u64 n]).run Try.prog w = .ok (.value (.float .f64 n.toNat)) w := by
  rw [run_callFunc_extern (e := Extern.MathFloatBits.float64frombits) Try.func36 (by kernel_rfl) (by kernel_rfl) (by kernel_rfl) (by kernel_rfl)]; rfl
set_option maxHeartbeats 400000 in
theorem isnan_any (b : Nat) (w : World) :
    Calls Try.prog 38 #[.float .f64 b] w fun e w' => e = .returned (.bool (nanB b)) ∧ w = w' := by
  go_enter Try.func38, Try.ntmps38
  go_wp2
  go_ret
  exact ⟨rfl, rfl⟩
set_option maxHeartbeats 400000 in
theorem canon_any (b : Nat) (w : World) :
    Calls Try.prog 28 #[.float .f64 b] w fun e w' => e = .returned (.float .f64 (canonB b)) ∧ w = w' := by
  cases h : nanB b with
  | true =>
    have h36 := fb36 9221120237041090560
    have e : canonB b = 9221120237041090560 := by unfold canonB; rw [if_pos h]
    rw [e]
    clear e
    go_enter Try.func28, Try.ntmps28
    go_wp2_with (go_at_call 38; refine (isnan_any _ _).mono ?_; rintro e w' ⟨rfl, rfl⟩)
    go_ret
    exact ⟨rfl, rfl⟩
  | false =>
    have e : canonB b = b := by unfold canonB; rw [if_neg (by rw [h]; decide)]
    rw [e]
    clear e
    go_enter Try.func28, Try.ntmps28
    go_wp2_with (go_at_call 38; refine (isnan_any _ _).mono ?_; rintro e w' ⟨rfl, rfl⟩)
    go_ret
    exact ⟨rfl, rfl⟩
theorem own_more' {w2 : World} {B n : Nat} {v : Value} {l r : List UInt8} (hn : n = l.length + r.length) (h : w2.ownsRow B 5 1 v n (bv l ++ bv r)) : Own w2 B v (l ++ r) := by
  subst hn; exact own_more h
def Gave (B : Nat) (w : World) (v : Value) (l : List UInt8) (e : Ending) (w' : World) : Prop := ∃ v', e = .returned v' ∧ Own w' B v' l ∧ Grew w w' v v'
def Panics (B : Nat) (w : World) (c : Int) (e : Ending) (w' : World) : Prop := e = .panicked [{ v := .iface 29 (.int .i64 c), recovered := false }] ∧ Below B w w' ∧ w.heap.size ≤ w'.heap.size
set_option maxRecDepth 100000 in
set_option maxHeartbeats 1000000 in
theorem writeBytes_long (B : Nat) (v b : Value) (r : List UInt8) (w : World) (hr : r.length ≤ 281474976710656) (hb : BytesIn B w b r) (hl : 1048576 < r.length) :
    Calls Try.prog 30 #[v, b] w (Panics B w 2) := by
  rcases hb with ⟨rfl, rfl⟩ | ⟨a, cap, rfl, _, _⟩
  · simp at hl
  · go_enter Try.func30, Try.ntmps30
    go_wp2
    exact ⟨rfl, rfl, Below.refl _ _, Nat.le_refl _⟩
set_option maxRecDepth 100000 in
set_option maxHeartbeats 1000000 in
theorem writeBytes_fit (B : Nat) (v b : Value) (l r : List UInt8) (w : World) (hr : r.length ≤ 1048576) (hl : l.length ≤ 2097152) (hB : B ≤ w.heap.size) (hO : Own w B v l) (hb : BytesIn B w b r) :
    Calls Try.prog 30 #[v, b] w (Gave B w v (l ++ headB 1 r.length ++ r)) := by
  obtain ⟨i0, hi, hz0, hz1, hz2⟩ := info_parts Try.info5
  have HB := Lib.hid hb
  have HO := Lib.hid hO
  obtain ⟨a, cap, rfl⟩ : ∃ a cap, b = .slice a r.length cap := by
    rcases hb with ⟨rfl, rfl⟩ | ⟨a, cap, rfl, _, _⟩
    · exact ⟨none, 0, rfl⟩
    · exact ⟨_, cap, rfl⟩
  have HL := Lib.hid (headB_len 1 r.length (by omega))
  clear hO hb
  go_enter Try.func30, Try.ntmps30
  go_wp2_with fail
  refine (writeHead_any B 1 r.length v l w (by omega) (by omega) (by omega) hB HO.out).mono ?_
  rintro e w1 ⟨v1, rfl, hown, hg1⟩
  have hb1 := hg1.below HO.out hB
  have hs1 := hg1.size
  have hB1 := HB.out.below hb1
  go_wp2_with (at_builtin; refine wpList_own_src _ rfl _ _ 23 23 rfl B 5 i0 (.int .u8 0) 1 1 Try.underlying23 hi hz0 hz1 hz2 rfl (by decide) _ _ _ rfl hown _ _ _ rfl hB1.src ?c3 ?c4 ?c5 ?_)
  case c3 => have := HL.out; simp only [List.length_append]; unfold maxLen; omega
  case c4 => have := HL.out; simp only [List.length_append]; omega
  case c5 => omega
  intro v2 w2 hown2 hg2
  have HV := Lib.hid (own_more' (by simp) hown2)
  have HG := Lib.hid (hg1.trans hg2)
  clear hown hown2 hg2 hg1 hb1 hB1
  go_wp2_with fail
  go_ret
  exact ⟨v2, rfl, HV.out, HG.out⟩
/-- A word's eight bytes, the highest first. -/
def be8 (b : Nat) : List UInt8 := (List.range 8).map fun i => UInt8.ofNat (b / 2 ^ (8 * (7 - i)) % 256)
theorem be8_take (b k : Nat) (h : k < 8) : (be8 b).take (k + 1) = (be8 b).take k ++ [UInt8.ofNat (b / 2 ^ (8 * (7 - k)) % 256)] := by
  have hl : (be8 b).length = 8 := by simp [be8]
  rw [List.take_succ_eq_append_getElem (by omega)]
  simp [be8]
theorem be8_all (b : Nat) : (be8 b).take 8 = be8 b := List.take_of_length_le (by simp [be8])
def floatL (f : Nat) : List UInt8 := headB 2 0 ++ be8 (canonB f)
set_option maxRecDepth 100000 in
set_option maxHeartbeats 2000000 in
theorem writeFloat_any (B : Nat) (v : Value) (l : List UInt8) (f : Nat) (w : World) (hf : f < 18446744073709551616) (hl : l.length ≤ 2097152) (hB : B ≤ w.heap.size) (hO : Own w B v l) :
    Calls Try.prog 31 #[v, .float .f64 f] w (Gave B w v (l ++ floatL f)) := by
  obtain ⟨i0, hi, hz0, hz1, hz2⟩ := info_parts Try.info5
  have HW := Lib.hid (writeHead_any B 2 0 v l w (by omega) (by omega) (by omega) hB hO)
  have HC := Lib.hid (canon_any f)
  have HL := Lib.hid (headB_len 2 0 (by omega))
  have HF : Hid (floatL f = headB 2 0 ++ be8 (canonB f)) := Lib.hid rfl
  have HX := Lib.hid (canonB_lt hf)
  have h19 := fb19
  clear hO hf
  generalize canonB f = x at *
  generalize headB 2 0 = hd at *
  go_enter Try.func31, Try.ntmps31
  go_wp2_with fail
  refine HW.out.mono ?_
  rintro e w1 ⟨v1, rfl, hown, hg1⟩
  have HO1 := Lib.hid hown
  have HB1 := Lib.hid hg1
  have hs1 := hg1.size
  clear hown hg1 HW
  go_wp2_with fail
  refine (HC.out _).mono ?_
  rintro e w' ⟨rfl, rfl⟩
  go_wp2_with fail
  clear HC h19
  go_loopw [0, 12] (fun vo i wr => ∃ k : Nat, k ≤ 8 ∧ i = .int .i64 k ∧ Own wr B vo (l ++ hd ++ (be8 x).take k) ∧ Grew w wr v vo)
    (fun _ i _ => 8 - (intOf i).toNat)
  case atStart => exact ⟨0, by omega, rfl, by simpa using HO1.out, HB1.out⟩
  case round =>
    obtain ⟨k, hk, rfl, hown, hbr⟩ := hrel
    have hsz := hbr.size
    have HR := Lib.hid hbr
    clear hbr HO1 HB1 hs1
    by_cases h8 : k < 8
    · have HT := Lib.hid (be8_take x k h8)
      have hlk : (l ++ hd ++ (be8 x).take k).length ≤ 2097200 := by
        have := HL.out
        simp only [List.length_append, List.length_take]; omega
      generalize hl2 : l ++ hd ++ (be8 x).take k = l2 at *
      have HL2 := Lib.hid hl2
      clear hl2
      go_wp2_with (at_builtin; refine wpList_own_src _ rfl _ _ 23 23 rfl B 5 i0 (.int .u8 0) 1 1 Try.underlying23 hi hz0 hz1 hz2 rfl (by decide) _ _ _ rfl (hown.alloc _) _ 1 [.int .u8 ((x : Int) / 2 ^ (8 * (7 - k)) % 256)] rfl (src_one _ _) ?c3 ?c4 ?c5 ?_)
      case c3 => unfold maxLen; omega
      case c4 => omega
      case c5 => simp; omega
      intro v' w2 hown' hgrow
      have HG := Lib.hid (HR.out.trans ((Grew.alloc _ _ _).trans hgrow))
      have HV := Lib.hid (own_push (x / 2 ^ (8 * (7 - k)) % 256) (by omega) (by simp) hown')
      clear hown' hown hgrow
      go_wp2_with fail
      go_roundw
      case rel => exact ⟨k + 1, by omega, by go_num, by rw [HT.out, ← List.append_assoc, HL2.out]; exact HV.out, HG.out⟩
      case measure => simp [intOf]; omega
    · have hk8 : k = 8 := by omega
      subst hk8
      rw [be8_all] at hown
      have HV := Lib.hid hown
      clear hown
      go_wp2_with fail
      go_ret
      exact ⟨_, rfl, by rw [HF.out, ← List.append_assoc]; exact HV.out, HR.out⟩
end Go.Proofs.Ytgppadnbfggkcaa
