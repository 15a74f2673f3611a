/- Bytes of one's own, heads, and appends onto an owned row, of whatever is appended (a slice, nil, a string's bytes). The walk of writeHead. Walks of writeBytes and writeFloat. Values, what they are written as, and the walk of write. The walk of write: lists, and whole. -/
import Derived.Test.YtdolonkeanlaoaaDoorRows
import Derived.Test.YtdolonkeanlaoaaDoorBase
import Derived.WalkKit
import Derived.WalkSpells
import Derived.WalkLawsBesides
import Derived.Lib.Hide
import Derived.Laws.OwnMore
import Derived.Deep.AppendLies
import Derived.OneCell
import Derived.Deep.AppendSrc
import Derived.Laws.IdiomStrings
namespace Go.Proofs.YtdolonkeanlaoaaDoor
open Go.RowKit

/-- What stands of a head from a part on. -/
def headL (part n : Nat) : List UInt8 := if n = 0 then [UInt8.ofNat part] else UInt8.ofNat (part + 128) :: headL (n % 128) (n / 128)
termination_by n
decreasing_by omega
/-- A head: a kind and a number. -/
def headB (k n : Nat) : List UInt8 := headL (n % 32 * 4 + k) (n / 32)
theorem headL_len : ∀ (j part n : Nat), n < 128 ^ j → (headL part n).length ≤ j + 1
  | 0, part, n, h => by
    have : n = 0 := by simpa using h
    rw [headL, if_pos this]; simp
  | j + 1, part, n, h => by
    rw [headL]; split
    · simp
    · have : n / 128 < 128 ^ j := by rw [Nat.pow_succ] at h; omega
      have := headL_len j (n % 128) (n / 128) this
      simp; omega
theorem headB_len (k n : Nat) (h : n < 18446744073709551616) : (headB k n).length ≤ 11 := headL_len 10 _ _ (by
  have : (128 : Nat) ^ 10 = 1180591620717411303424 := by decide
  omega)
/-- A slice value whose cells, all ahead of block B, hold these bytes. -/
def BytesIn (B : Nat) (w : World) (v : Value) (l : List UInt8) : Prop :=
  (v = .slice none 0 0 ∧ l = []) ∨ ∃ a cap, v = .slice (some a) l.length cap ∧ (l = [] ∨ a.block < B) ∧ ∀ j u, (bv l)[j]? = some u → w.cell? (a.add j) = some u
theorem BytesIn.below {B : Nat} {w w' : World} {v : Value} {l : List UInt8} (h : BytesIn B w v l) (hb : Below B w w') : BytesIn B w' v l := by
  rcases h with h | ⟨a, cap, h1, h2, h3⟩
  · exact Or.inl h
  · refine Or.inr ⟨a, cap, h1, h2, fun j u hj => ?_⟩
    rcases h2 with rfl | h2
    · simp [bv] at hj
    · rw [hb.cell (p := a.add j) (by rw [add_block]; exact h2)]; exact h3 j u hj
theorem BytesIn.src {B : Nat} {w : World} {v : Value} {l : List UInt8} (h : BytesIn B w v l) : Src Tryd.prog 1 22 v l.length (bv l) w := by
  rcases h with ⟨rfl, rfl⟩ | ⟨a, cap, rfl, h2, h3⟩
  · exact Src.ofNil w Tryd.underlying22 0
  · exact Src.ofSlice w Tryd.underlying22 a _ cap _ (by rw [bv_len]; omega) h3 (bv_one l)
theorem src_string (w : World) (l : List UInt8) : Src Tryd.prog 1 9 (.string ⟨l.toArray⟩) l.length (bv l) w :=
  Src.ofString w Tryd.underlying9 ⟨l.toArray⟩
theorem own_bytes {w : World} {B B2 : Nat} {v : Value} {l : List UInt8} (h : Own w B v l) (hB : w.heap.size ≤ B2) : BytesIn B2 w v l := by
  rcases h.2 with ⟨rfl, hn⟩ | ⟨g, cap, cur, rfl, _, hg, _⟩
  · exact Or.inl ⟨rfl, List.length_eq_zero_iff.1 hn⟩
  · refine Or.inr ⟨_, cap, rfl, ?_, World.ownsRow.cells h rfl⟩
    have := (World.ownsRow.lt h g rfl).2
    exact Or.inr (show g < B2 by omega)
end Go.Proofs.YtdolonkeanlaoaaDoor
namespace Go.Proofs.YtdolonkeanlaoaaDoor
open Go.RowKit

set_option maxRecDepth 100000 in
set_option maxHeartbeats 2000000 in
theorem writeHead_any (B k n : Nat) (v : Value) (l : List UInt8) (w : World) (hk : k < 4) (hn : n < 18446744073709551616) (hl : l.length ≤ 4194304) (hB : B ≤ w.heap.size) (hO : Own w B v l) :
    Calls Tryd.prog 79 #[v, .int .u8 k, .int .u64 n] w fun e w' => ∃ v', e = .returned v' ∧ Own w' B v' (l ++ headB k n) ∧ Grew w w' v v' := by
  obtain ⟨i0, hi, hz0, hz1, hz2⟩ := info_parts Tryd.info5
  have HL := Lib.hid (headB_len k n hn)
  have HN := Lib.hid hn
  have HO := Lib.hid hO
  clear hn hO
  go_enter Tryd.func79, Tryd.ntmps79
  go_wp2_with fail
  go_loopw [0, 2, 7] (fun vo m p wr => ∃ (v' : Value) (l' : List UInt8) (part m' : Nat), vo = v' ∧ m = .int .u64 m' ∧ p = .int .u8 part ∧ part < 128 ∧ m' ≤ n ∧ l' ++ headL part m' = l ++ headB k n ∧ Own wr B v' l' ∧ Grew w wr v v')
    (fun _ m _ _ => (intOf m).toNat)
  case atStart =>
    refine ⟨v, l, n % 32 * 4 + k, n / 32, rfl, ?_, ?_, by omega, by omega, rfl, HO.out, Grew.refl _ _⟩
    · exact congrArg (Value.int .u64) (by have := HN.out; rw [IntKind.wrap_u64]; omega)
    · exact congrArg (Value.int .u8) (by omega)
  case round =>
    obtain ⟨v', l', part, m, rfl, rfl, rfl, hp, hm, hh, hown, hbr⟩ := hrel
    have hsz := hbr.size
    have hl' : l'.length ≤ 4194400 := by
      have e := congrArg List.length hh
      rw [List.length_append, List.length_append] at e
      have := HL.out
      omega
    have HR := Lib.hid hbr
    have HH := Lib.hid hh
    clear hbr hh
    by_cases hm0 : m = 0
    · subst hm0
      go_wp2_with (at_builtin; refine wpList_own_src _ rfl _ _ 22 22 rfl B 5 i0 (.int .u8 0) 1 1 Tryd.underlying22 hi hz0 hz1 hz2 rfl (by decide) _ _ _ rfl (hown.alloc _) _ 1 [.int .u8 part] rfl (src_one _ _) ?c3 ?c4 ?c5 ?_)
      case c3 => unfold maxLen; omega
      case c4 => omega
      case c5 => simp; omega
      intro v' w2 hown' hgrow
      have HG := Lib.hid (HR.out.trans ((Grew.alloc _ _ _).trans hgrow))
      have HV := Lib.hid (own_push part (by omega) rfl hown')
      clear hown' hown hgrow
      go_wp2_with fail
      go_ret
      refine ⟨v', rfl, ?_, HG.out⟩
      have e : headL part 0 = [UInt8.ofNat part] := by rw [headL, if_pos rfl]
      rw [← HH.out, e]; exact HV.out
    · have hm1 : 0 < m := by omega
      go_wp2_with (at_builtin; refine wpList_own_src _ rfl _ _ 22 22 rfl B 5 i0 (.int .u8 0) 1 1 Tryd.underlying22 hi hz0 hz1 hz2 rfl (by decide) _ _ _ rfl (hown.alloc _) _ 1 [.int .u8 ((part : Int) + 128)] rfl (src_one _ _) ?c3 ?c4 ?c5 ?_)
      case c3 => unfold maxLen; omega
      case c4 => omega
      case c5 => simp; omega
      intro v' w2 hown' hgrow
      have HG := Lib.hid (HR.out.trans ((Grew.alloc _ _ _).trans hgrow))
      have HV := Lib.hid (own_push (part + 128) (by omega) (by omega) hown')
      clear hown' hown hgrow
      go_wp2_with fail
      have hw : IntKind.u64.wrap ((m : Int) / 128) = ((m / 128 : Nat) : Int) := by have := HN.out; rw [IntKind.wrap_u64]; omega
      rw [hw]
      refine ⟨⟨v', _, m % 128, m / 128, rfl, rfl, rfl, by omega, by omega, ?_, HV.out, HG.out⟩, by simp [intOf]; omega⟩
      have e : headL part m = UInt8.ofNat (part + 128) :: headL (m % 128) (m / 128) := by rw [headL, if_neg hm0]
      rw [← HH.out, e, List.append_assoc]; rfl
end Go.Proofs.YtdolonkeanlaoaaDoor
namespace Go.Proofs.YtdolonkeanlaoaaDoor
open Go.RowKit

def nanB (b : Nat) : Bool := (FloatKind.f64.format.order b b != some .eq)
def canonB (b : Nat) : Nat := if nanB b = true then 9221120237041090560 else b
theorem canonB_lt {b : Nat} (h : b < 18446744073709551616) : canonB b < 18446744073709551616 := by unfold canonB; split <;> omega
theorem fb19 (b : Nat) (w : World) : (callFunc 91 #[.float .f64 b]).run Tryd.prog w = .ok (.value (.int .u64 b)) w := by
  rw [run_callFunc_extern (e := Extern.MathFloatBits.float64bits) Tryd.func91 (by kernel_rfl) (by kernel_rfl) (by kernel_rfl) (by kernel_rfl)]; rfl
theorem fb36 (n : Int) (w : World) : (callFunc 75 #[.int .u64 n]).run Tryd.prog w = .ok (.value (.float .f64 n.toNat)) w := by
  rw [run_callFunc_extern (e := Extern.MathFloatBits.float64frombits) Tryd.func75 (by kernel_rfl) (by kernel_rfl) (by kernel_rfl) (by kernel_rfl)]; rfl
set_option maxHeartbeats 400000 in
theorem isnan_any (b : Nat) (w : World) :
    Calls Tryd.prog 74 #[.float .f64 b] w fun e w' => e = .returned (.bool (nanB b)) ∧ w = w' := by
  go_enter Tryd.func74, Tryd.ntmps74
  go_wp2
  go_ret
  exact ⟨rfl, rfl⟩
set_option maxHeartbeats 400000 in
theorem canon_any (b : Nat) (w : World) :
    Calls Tryd.prog 56 #[.float .f64 b] w fun e w' => e = .returned (.float .f64 (canonB b)) ∧ w = w' := by
  cases h : nanB b with
  | true =>
    have h36 := fb36 9221120237041090560
    have e : canonB b = 9221120237041090560 := by unfold canonB; rw [if_pos h]
    rw [e]
    clear e
    go_enter Tryd.func56, Tryd.ntmps56
    go_wp2_with (go_at_call 74; refine (isnan_any _ _).mono ?_; rintro e w' ⟨rfl, rfl⟩)
    go_ret
    exact ⟨rfl, rfl⟩
  | false =>
    have e : canonB b = b := by unfold canonB; rw [if_neg (by rw [h]; decide)]
    rw [e]
    clear e
    go_enter Tryd.func56, Tryd.ntmps56
    go_wp2_with (go_at_call 74; refine (isnan_any _ _).mono ?_; rintro e w' ⟨rfl, rfl⟩)
    go_ret
    exact ⟨rfl, rfl⟩
def Gave (B : Nat) (w : World) (v : Value) (l : List UInt8) (e : Ending) (w' : World) : Prop := ∃ v', e = .returned v' ∧ Own w' B v' l ∧ Grew w w' v v'
def Panics (B : Nat) (w : World) (c : Int) (e : Ending) (w' : World) : Prop := e = .panicked [{ v := .iface 24 (.int .i64 c), recovered := false }] ∧ Below B w w' ∧ w.heap.size ≤ w'.heap.size
set_option maxRecDepth 100000 in
set_option maxHeartbeats 1000000 in
theorem writeBytes_long (B : Nat) (v b : Value) (r : List UInt8) (w : World) (hr : r.length ≤ 281474976710656) (hb : BytesIn B w b r) (hl : 1048576 < r.length) :
    Calls Tryd.prog 80 #[v, b] w (Panics B w 2) := by
  rcases hb with ⟨rfl, rfl⟩ | ⟨a, cap, rfl, _, _⟩
  · simp at hl
  · go_enter Tryd.func80, Tryd.ntmps80
    go_wp2
    exact ⟨rfl, rfl, Below.refl _ _, Nat.le_refl _⟩
set_option maxRecDepth 100000 in
set_option maxHeartbeats 1000000 in
theorem writeBytes_fit (B : Nat) (v b : Value) (l r : List UInt8) (w : World) (hr : r.length ≤ 1048576) (hl : l.length ≤ 2097152) (hB : B ≤ w.heap.size) (hO : Own w B v l) (hb : BytesIn B w b r) :
    Calls Tryd.prog 80 #[v, b] w (Gave B w v (l ++ headB 1 r.length ++ r)) := by
  obtain ⟨i0, hi, hz0, hz1, hz2⟩ := info_parts Tryd.info5
  have HB := Lib.hid hb
  have HO := Lib.hid hO
  obtain ⟨a, cap, rfl⟩ : ∃ a cap, b = .slice a r.length cap := by
    rcases hb with ⟨rfl, rfl⟩ | ⟨a, cap, rfl, _, _⟩
    · exact ⟨none, 0, rfl⟩
    · exact ⟨_, cap, rfl⟩
  have HL := Lib.hid (headB_len 1 r.length (by omega))
  clear hO hb
  go_enter Tryd.func80, Tryd.ntmps80
  go_wp2_with fail
  refine (writeHead_any B 1 r.length v l w (by omega) (by omega) (by omega) hB HO.out).mono ?_
  rintro e w1 ⟨v1, rfl, hown, hg1⟩
  have hb1 := hg1.below HO.out hB
  have hs1 := hg1.size
  have hB1 := HB.out.below hb1
  go_wp2_with (at_builtin; refine wpList_own_src _ rfl _ _ 22 22 rfl B 5 i0 (.int .u8 0) 1 1 Tryd.underlying22 hi hz0 hz1 hz2 rfl (by decide) _ _ _ rfl hown _ _ _ rfl hB1.src ?c3 ?c4 ?c5 ?_)
  case c3 => have := HL.out; simp only [List.length_append]; unfold maxLen; omega
  case c4 => have := HL.out; simp only [List.length_append]; omega
  case c5 => omega
  intro v2 w2 hown2 hg2
  have HV := Lib.hid (own_more' (by simp) hown2)
  have HG := Lib.hid (hg1.trans hg2)
  clear hown hown2 hg2 hg1 hb1 hB1
  go_wp2_with fail
  go_ret
  exact ⟨v2, rfl, HV.out, HG.out⟩
/-- A word's eight bytes, the highest first. -/
def be8 (b : Nat) : List UInt8 := (List.range 8).map fun i => UInt8.ofNat (b / 2 ^ (8 * (7 - i)) % 256)
theorem be8_take (b k : Nat) (h : k < 8) : (be8 b).take (k + 1) = (be8 b).take k ++ [UInt8.ofNat (b / 2 ^ (8 * (7 - k)) % 256)] := by
  have hl : (be8 b).length = 8 := by simp [be8]
  rw [List.take_succ_eq_append_getElem (by omega)]
  simp [be8]
theorem be8_all (b : Nat) : (be8 b).take 8 = be8 b := List.take_of_length_le (by simp [be8])
def floatL (f : Nat) : List UInt8 := headB 2 0 ++ be8 (canonB f)
set_option maxRecDepth 100000 in
set_option maxHeartbeats 2000000 in
theorem writeFloat_any (B : Nat) (v : Value) (l : List UInt8) (f : Nat) (w : World) (hf : f < 18446744073709551616) (hl : l.length ≤ 2097152) (hB : B ≤ w.heap.size) (hO : Own w B v l) :
    Calls Tryd.prog 81 #[v, .float .f64 f] w (Gave B w v (l ++ floatL f)) := by
  obtain ⟨i0, hi, hz0, hz1, hz2⟩ := info_parts Tryd.info5
  have HW := Lib.hid (writeHead_any B 2 0 v l w (by omega) (by omega) (by omega) hB hO)
  have HC := Lib.hid (canon_any f)
  have HL := Lib.hid (headB_len 2 0 (by omega))
  have HF : Hid (floatL f = headB 2 0 ++ be8 (canonB f)) := Lib.hid rfl
  have HX := Lib.hid (canonB_lt hf)
  have h19 := fb19
  clear hO hf
  generalize canonB f = x at *
  generalize headB 2 0 = hd at *
  go_enter Tryd.func81, Tryd.ntmps81
  go_wp2_with fail
  refine HW.out.mono ?_
  rintro e w1 ⟨v1, rfl, hown, hg1⟩
  have HO1 := Lib.hid hown
  have HB1 := Lib.hid hg1
  have hs1 := hg1.size
  clear hown hg1 HW
  go_wp2_with fail
  refine (HC.out _).mono ?_
  rintro e w' ⟨rfl, rfl⟩
  go_wp2_with fail
  clear HC h19
  go_loopw [0, 12] (fun vo i wr => ∃ k : Nat, k ≤ 8 ∧ i = .int .i64 k ∧ Own wr B vo (l ++ hd ++ (be8 x).take k) ∧ Grew w wr v vo)
    (fun _ i _ => 8 - (intOf i).toNat)
  case atStart => exact ⟨0, by omega, rfl, by simpa using HO1.out, HB1.out⟩
  case round =>
    obtain ⟨k, hk, rfl, hown, hbr⟩ := hrel
    have hsz := hbr.size
    have HR := Lib.hid hbr
    clear hbr HO1 HB1 hs1
    by_cases h8 : k < 8
    · have HT := Lib.hid (be8_take x k h8)
      have hlk : (l ++ hd ++ (be8 x).take k).length ≤ 2097200 := by
        have := HL.out
        simp only [List.length_append, List.length_take]; omega
      generalize hl2 : l ++ hd ++ (be8 x).take k = l2 at *
      have HL2 := Lib.hid hl2
      clear hl2
      go_wp2_with (at_builtin; refine wpList_own_src _ rfl _ _ 22 22 rfl B 5 i0 (.int .u8 0) 1 1 Tryd.underlying22 hi hz0 hz1 hz2 rfl (by decide) _ _ _ rfl (hown.alloc _) _ 1 [.int .u8 ((x : Int) / 2 ^ (8 * (7 - k)) % 256)] rfl (src_one _ _) ?c3 ?c4 ?c5 ?_)
      case c3 => unfold maxLen; omega
      case c4 => omega
      case c5 => simp; omega
      intro v' w2 hown' hgrow
      have HG := Lib.hid (HR.out.trans ((Grew.alloc _ _ _).trans hgrow))
      have HV := Lib.hid (own_push (x / 2 ^ (8 * (7 - k)) % 256) (by omega) (by simp) hown')
      clear hown' hown hgrow
      go_wp2_with fail
      go_roundw
      case rel => exact ⟨k + 1, by omega, by go_num, by rw [HT.out, ← List.append_assoc, HL2.out]; exact HV.out, HG.out⟩
      case measure => simp [intOf]; omega
    · have hk8 : k = 8 := by omega
      subst hk8
      rw [be8_all] at hown
      have HV := Lib.hid hown
      clear hown
      go_wp2_with fail
      go_ret
      exact ⟨_, rfl, by rw [HF.out, ← List.append_assoc]; exact HV.out, HR.out⟩
end Go.Proofs.YtdolonkeanlaoaaDoor
namespace Go.Proofs.YtdolonkeanlaoaaDoor
open Go.RowKit

inductive Val where
  | mk (kind : Int) (num : Nat) (bytes : List UInt8) (real : Nat) (list : List Val)
instance : Inhabited Val := ⟨.mk 0 0 [] 0 []⟩
def foldE (g : List UInt8 → Val → Except Int (List UInt8)) : List Val → List UInt8 → Except Int (List UInt8)
  | [], o => .ok o
  | x :: r, o => match g o x with
    | .ok o' => foldE g r o'
    | .error c => .error c
def capE (r : Except Int (List UInt8)) : Except Int (List UInt8) :=
  match r with
  | .ok o => if 1048576 < o.length then .error 2 else .ok o
  | .error c => .error c
/-- What a value is written as, behind what is written, where it may lie n levels deep. -/
def encV : Nat → List UInt8 → Val → Except Int (List UInt8)
  | 0, _, _ => .error 24
  | n + 1, o, .mk k u b f l => capE (
    if k = 0 then .ok (o ++ headB 0 u)
    else if k = 1 then (if 1048576 < b.length then .error 2 else .ok (o ++ headB 1 b.length ++ b))
    else if k = 2 then .ok (o ++ floatL f)
    else if k = 3 then foldE (encV n) l (o ++ headB 3 l.length)
    else .error 22)
theorem capE_len {r : Except Int (List UInt8)} {o : List UInt8} (h : capE r = .ok o) : o.length ≤ 1048576 := by
  unfold capE at h
  cases r with
  | error c => cases h
  | ok x =>
    simp only at h
    split at h
    · cases h
    · injection h with h; subst h; omega
theorem enc_len : ∀ {n : Nat} {o : List UInt8} {x : Val} {r : List UInt8}, encV n o x = .ok r → r.length ≤ 1048576
  | 0, _, _, _, h => by simp only [encV] at h; cases h
  | n + 1, _, .mk .., _, h => by simp only [encV] at h; exact capE_len h
/-- The memory of a value, so many levels deep; all of it lies ahead of block B. -/
def ListIn (B : Nat) (w : World) (R : Value → Val → Prop) (v : Value) (l : List Val) : Prop :=
  (∃ a cap, v = .slice a 0 cap ∧ l = []) ∨ ∃ g o cap, v = .slice (some ⟨g, o, none⟩) l.length cap ∧ g < B ∧
    ∀ j x, l[j]? = some x → ∃ c0 c1 c2 c3 c4, w.cell? ⟨g, o + j * 5, none⟩ = some c0 ∧ w.cell? ⟨g, o + j * 5 + 1, none⟩ = some c1 ∧ w.cell? ⟨g, o + j * 5 + 2, none⟩ = some c2 ∧
      w.cell? ⟨g, o + j * 5 + 3, none⟩ = some c3 ∧ w.cell? ⟨g, o + j * 5 + 4, none⟩ = some c4 ∧ R (.agg #[c0, c1, c2, c3, c4]) x
def Reads (B : Nat) (w : World) : Nat → Value → Val → Prop
  | 0, v, .mk k u _ f _ => ∃ a1 n1 c1 a2 n2 c2, v = .agg #[.int .i64 k, .int .u64 u, .slice a1 n1 c1, .float .f64 f, .slice a2 n2 c2]
  | n + 1, v, .mk k u b f l => ∃ vb vl, v = .agg #[.int .i64 k, .int .u64 u, vb, .float .f64 f, vl] ∧ u < 18446744073709551616 ∧ f < 18446744073709551616 ∧
    b.length ≤ 1048576 ∧ l.length ≤ 1048576 ∧ BytesIn B w vb b ∧ ListIn B w (Reads B w n) vl l
theorem ListIn.below {B : Nat} {w w' : World} {R R' : Value → Val → Prop} {v : Value} {l : List Val} (h : ListIn B w R v l) (hb : Below B w w') (hR : ∀ v x, R v x → R' v x) : ListIn B w' R' v l := by
  rcases h with h | ⟨g, o, cap, h1, h2, h3⟩
  · exact Or.inl h
  · refine Or.inr ⟨g, o, cap, h1, h2, fun j x hj => ?_⟩
    obtain ⟨c0, c1, c2, c3, c4, e0, e1, e2, e3, e4, hr⟩ := h3 j x hj
    exact ⟨c0, c1, c2, c3, c4, (hb.cell h2).trans e0, (hb.cell h2).trans e1, (hb.cell h2).trans e2, (hb.cell h2).trans e3, (hb.cell h2).trans e4, hR _ _ hr⟩
theorem Reads.below {B : Nat} {w w' : World} (hb : Below B w w') : ∀ (n : Nat) (v : Value) (x : Val), Reads B w n v x → Reads B w' n v x
  | 0, v, .mk .., h => h
  | n + 1, v, .mk .., h => by
    obtain ⟨vb, vl, h1, h2, h3, h4, h5, h6, h7⟩ := h
    exact ⟨vb, vl, h1, h2, h3, h4, h5, h6.below hb, h7.below hb (Reads.below hb n)⟩
theorem BytesIn.shape {B : Nat} {w : World} {v : Value} {l : List UInt8} (h : BytesIn B w v l) : ∃ a cap, v = .slice a l.length cap := by
  rcases h with ⟨rfl, rfl⟩ | ⟨a, cap, rfl, _⟩
  · exact ⟨none, 0, rfl⟩
  · exact ⟨_, _, rfl⟩
theorem ListIn.shape {B : Nat} {w : World} {R : Value → Val → Prop} {v : Value} {l : List Val} (h : ListIn B w R v l) : ∃ a cap, v = .slice a l.length cap := by
  rcases h with ⟨a, cap, rfl, rfl⟩ | ⟨g, o, cap, rfl, _⟩
  · exact ⟨a, cap, rfl⟩
  · exact ⟨_, _, rfl⟩
theorem Reads.shape {B : Nat} {w : World} : ∀ {n : Nat} {v : Value} {k : Int} {u : Nat} {b : List UInt8} {f : Nat} {l : List Val}, Reads B w n v (.mk k u b f l) →
    ∃ a1 n1 c1 a2 n2 c2, v = .agg #[.int .i64 k, .int .u64 u, .slice a1 n1 c1, .float .f64 f, .slice a2 n2 c2]
  | 0, _, _, _, _, _, _, h => h
  | _ + 1, _, _, _, _, _, _, ⟨vb, vl, h, _, _, _, _, h5, h6⟩ => by
    obtain ⟨a1, c1, rfl⟩ := h5.shape
    obtain ⟨a2, c2, rfl⟩ := h6.shape
    exact ⟨a1, _, c1, a2, _, c2, h⟩
def EncGives (B : Nat) (w : World) (v : Value) (r : Except Int (List UInt8)) (e : Ending) (w' : World) : Prop :=
  match r with
  | .ok o => Gave B w v o e w'
  | .error c => Panics B w c e w'
def WriteOk (n : Nat) : Prop := ∀ (B : Nat) (v xv : Value) (x : Val) (o : List UInt8) (a : Nat) (w : World), a + n = 16 → o.length ≤ 1048576 + 16 * a → B ≤ w.heap.size → Own w B v o → Reads B w n xv x →
    Calls Tryd.prog 65 #[v, xv, .int .i64 a] w (EncGives B w v (encV n o x))
set_option maxRecDepth 100000 in
set_option maxHeartbeats 1000000 in
theorem write_deep : WriteOk 0 := by
  intro B v xv x o a w ha ho hB hO hR
  obtain ⟨k, u, b, f, l⟩ := x
  obtain ⟨a1, n1, c1, a2, n2, c2, rfl⟩ := hR.shape
  have e : a = 16 := by omega
  subst e
  clear hR hO
  go_enter Tryd.func65, Tryd.ntmps65
  go_wp2
  exact ⟨rfl, rfl, (Below.refl _ _).alloc hB _, by simp⟩
theorem cap_ok {o : List UInt8} (h : ¬ 1048576 < o.length) : capE (.ok o) = .ok o := by unfold capE; simp only; rw [if_neg h]
theorem cap_long {o : List UInt8} (h : 1048576 < o.length) : capE (.ok o) = .error 2 := by unfold capE; simp only; rw [if_pos h]
theorem enc_num (n : Nat) (o : List UInt8) (u : Nat) (b : List UInt8) (f : Nat) (l : List Val) : encV (n + 1) o (.mk 0 u b f l) = capE (.ok (o ++ headB 0 u)) := by simp only [encV]; rw [if_pos trivial]
theorem enc_bytes (n : Nat) (o : List UInt8) (u : Nat) (b : List UInt8) (f : Nat) (l : List Val) : encV (n + 1) o (.mk 1 u b f l) = capE (if 1048576 < b.length then .error 2 else .ok (o ++ headB 1 b.length ++ b)) := by
  simp only [encV]; rw [if_neg (by decide), if_pos trivial]
theorem enc_real (n : Nat) (o : List UInt8) (u : Nat) (b : List UInt8) (f : Nat) (l : List Val) : encV (n + 1) o (.mk 2 u b f l) = capE (.ok (o ++ floatL f)) := by
  simp only [encV]; rw [if_neg (by decide), if_neg (by decide), if_pos trivial]
theorem enc_list (n : Nat) (o : List UInt8) (u : Nat) (b : List UInt8) (f : Nat) (l : List Val) : encV (n + 1) o (.mk 3 u b f l) = capE (foldE (encV n) l (o ++ headB 3 l.length)) := by
  simp only [encV]; rw [if_neg (by decide), if_neg (by decide), if_neg (by decide), if_pos trivial]
theorem enc_other (n : Nat) (o : List UInt8) (k : Int) (u : Nat) (b : List UInt8) (f : Nat) (l : List Val) (h0 : k ≠ 0) (h1 : k ≠ 1) (h2 : k ≠ 2) (h3 : k ≠ 3) : encV (n + 1) o (.mk k u b f l) = .error 22 := by
  simp only [encV]; rw [if_neg h0, if_neg h1, if_neg h2, if_neg h3]; rfl
set_option maxRecDepth 100000 in
set_option maxHeartbeats 1000000 in
theorem write_other (B : Nat) (v vb vl : Value) (k : Int) (u f a : Nat) (w : World) (ha : a < 16) (hB : B ≤ w.heap.size) (h0 : (k == 0) = false) (h1 : (k == 1) = false) (h2 : (k == 2) = false) (h3 : (k == 3) = false) :
    Calls Tryd.prog 65 #[v, .agg #[.int .i64 k, .int .u64 u, vb, .float .f64 f, vl], .int .i64 a] w (Panics B w 22) := by
  go_enter Tryd.func65, Tryd.ntmps65
  go_wp2
  exact ⟨rfl, rfl, (Below.refl _ _).alloc hB _, by simp⟩
set_option maxRecDepth 100000 in
set_option maxHeartbeats 1000000 in
theorem write_num (B : Nat) (v vb vl : Value) (o : List UInt8) (u f a : Nat) (w : World) (ha : a < 16) (hu : u < 18446744073709551616) (ho : o.length ≤ 2097152) (hB : B ≤ w.heap.size) (hO : Own w B v o) :
    Calls Tryd.prog 65 #[v, .agg #[.int .i64 0, .int .u64 u, vb, .float .f64 f, vl], .int .i64 a] w (EncGives B w v (capE (.ok (o ++ headB 0 u)))) := by
  have HO := Lib.hid hO
  have HU := Lib.hid hu
  have HL := Lib.hid (headB_len 0 u hu)
  clear hO hu
  generalize hr : o ++ headB 0 u = r
  have HRR := Lib.hid hr
  clear hr
  generalize hx : capE (.ok r) = x
  have HX := Lib.hid hx
  clear hx
  go_enter Tryd.func65, Tryd.ntmps65
  go_wp2_with fail
  have hB1 : B ≤ (w.alloc (.cells #[.int .i64 0, .int .u64 u, vb, .float .f64 f, vl] 53)).heap.size := by simp; omega
  refine (writeHead_any B 0 u v o _ (by omega) HU.out (by omega) hB1 (World.ownsRow.alloc HO.out _)).mono ?_
  rintro e w1 ⟨v1, rfl, hown, hg1⟩
  have hrl : r.length ≤ 4194304 := by have hq := congrArg List.length HRR.out; have := HL.out; simp only [List.length_append] at hq; omega
  rw [HRR.out] at hown
  obtain ⟨sa, sc, rfl⟩ := own_slice hown
  have HV := Lib.hid hown
  have HG := Lib.hid ((Grew.alloc w v _).trans hg1)
  clear hown hg1
  by_cases hlong : 1048576 < r.length
  · have hx := HX.out.symm.trans (cap_long hlong)
    clear HX
    subst hx
    go_wp2_with fail
    exact ⟨rfl, rfl, HG.out.below HO.out hB, HG.out.size⟩
  · have hx := HX.out.symm.trans (cap_ok hlong)
    clear HX
    subst hx
    go_wp2_with fail
    go_ret
    exact ⟨_, rfl, HV.out, HG.out⟩
set_option maxRecDepth 100000 in
set_option maxHeartbeats 1000000 in
theorem write_long (B : Nat) (v vb vl : Value) (b : List UInt8) (u f a : Nat) (w : World) (ha : a < 16) (hb : b.length ≤ 281474976710656) (hl : 1048576 < b.length) (hB : B ≤ w.heap.size) (hI : BytesIn B w vb b) :
    Calls Tryd.prog 65 #[v, .agg #[.int .i64 1, .int .u64 u, vb, .float .f64 f, vl], .int .i64 a] w (Panics B w 2) := by
  have HI := Lib.hid hI
  have HL := Lib.hid hl
  clear hI hl
  go_enter Tryd.func65, Tryd.ntmps65
  go_wp2_with fail
  refine (writeBytes_long B v vb b _ hb (HI.out.below ((Below.refl B w).alloc hB _)) HL.out).mono ?_
  rintro e w1 ⟨rfl, hb1, hs1⟩
  go_wp2_with fail
  have HG := ((Below.refl B w).alloc hB _).trans hb1
  exact ⟨rfl, rfl, HG, HG.size⟩
set_option maxRecDepth 100000 in
set_option maxHeartbeats 1000000 in
theorem write_bytes (B : Nat) (v vb vl : Value) (o b : List UInt8) (u f a : Nat) (w : World) (ha : a < 16) (hb : b.length ≤ 1048576) (ho : o.length ≤ 2097152) (hB : B ≤ w.heap.size) (hO : Own w B v o) (hI : BytesIn B w vb b) :
    Calls Tryd.prog 65 #[v, .agg #[.int .i64 1, .int .u64 u, vb, .float .f64 f, vl], .int .i64 a] w (EncGives B w v (capE (.ok (o ++ headB 1 b.length ++ b)))) := by
  have HO := Lib.hid hO
  have HI := Lib.hid hI
  have HL := Lib.hid (headB_len 1 b.length (by omega))
  clear hO hI
  generalize hr : o ++ headB 1 b.length ++ b = r
  have HRR := Lib.hid hr
  clear hr
  generalize hx : capE (.ok r) = x
  have HX := Lib.hid hx
  clear hx
  go_enter Tryd.func65, Tryd.ntmps65
  go_wp2_with fail
  have hB1 : B ≤ (w.alloc (.cells #[.int .i64 1, .int .u64 u, vb, .float .f64 f, vl] 53)).heap.size := by simp; omega
  refine (writeBytes_fit B v vb o b _ hb ho hB1 (World.ownsRow.alloc HO.out _) (HI.out.below ((Below.refl B w).alloc hB _))).mono ?_
  rintro e w1 ⟨v1, rfl, hown, hg1⟩
  have hrl : r.length ≤ 4194304 := by have hq := congrArg List.length HRR.out; have := HL.out; simp only [List.length_append] at hq; omega
  rw [HRR.out] at hown
  obtain ⟨sa, sc, rfl⟩ := own_slice hown
  have HV := Lib.hid hown
  have HG := Lib.hid ((Grew.alloc w v _).trans hg1)
  clear hown hg1
  by_cases hlong : 1048576 < r.length
  · have hx := HX.out.symm.trans (cap_long hlong)
    clear HX
    subst hx
    go_wp2_with fail
    exact ⟨rfl, rfl, HG.out.below HO.out hB, HG.out.size⟩
  · have hx := HX.out.symm.trans (cap_ok hlong)
    clear HX
    subst hx
    go_wp2_with fail
    go_ret
    exact ⟨_, rfl, HV.out, HG.out⟩
set_option maxRecDepth 100000 in
set_option maxHeartbeats 1000000 in
theorem write_real (B : Nat) (v vb vl : Value) (o : List UInt8) (u f a : Nat) (w : World) (ha : a < 16) (hf : f < 18446744073709551616) (ho : o.length ≤ 2097152) (hB : B ≤ w.heap.size) (hO : Own w B v o) :
    Calls Tryd.prog 65 #[v, .agg #[.int .i64 2, .int .u64 u, vb, .float .f64 f, vl], .int .i64 a] w (EncGives B w v (capE (.ok (o ++ floatL f)))) := by
  have HO := Lib.hid hO
  have HF := Lib.hid hf
  have HL := Lib.hid (headB_len 2 0 (by omega))
  clear hO hf
  generalize hr : o ++ floatL f = r
  have HRR := Lib.hid hr
  clear hr
  generalize hx : capE (.ok r) = x
  have HX := Lib.hid hx
  clear hx
  go_enter Tryd.func65, Tryd.ntmps65
  go_wp2_with fail
  have hB1 : B ≤ (w.alloc (.cells #[.int .i64 2, .int .u64 u, vb, .float .f64 f, vl] 53)).heap.size := by simp; omega
  refine (writeFloat_any B v o f _ HF.out ho hB1 (World.ownsRow.alloc HO.out _)).mono ?_
  rintro e w1 ⟨v1, rfl, hown, hg1⟩
  have hrl : r.length ≤ 4194304 := by have hq := congrArg List.length HRR.out; have := HL.out; unfold floatL be8 at hq; simp at hq; omega
  rw [HRR.out] at hown
  obtain ⟨sa, sc, rfl⟩ := own_slice hown
  have HV := Lib.hid hown
  have HG := Lib.hid ((Grew.alloc w v _).trans hg1)
  clear hown hg1
  by_cases hlong : 1048576 < r.length
  · have hx := HX.out.symm.trans (cap_long hlong)
    clear HX
    subst hx
    go_wp2_with fail
    exact ⟨rfl, rfl, HG.out.below HO.out hB, HG.out.size⟩
  · have hx := HX.out.symm.trans (cap_ok hlong)
    clear HX
    subst hx
    go_wp2_with fail
    go_ret
    exact ⟨_, rfl, HV.out, HG.out⟩
end Go.Proofs.YtdolonkeanlaoaaDoor
namespace Go.Proofs.YtdolonkeanlaoaaDoor
open Go.RowKit

theorem run_storeF (w : World) (a : Addr) (b : Nat) (m : Mode) : (store a (.float .f64 b) m).run Tryd.prog w = stored Tryd.prog w a (.float .f64 b) m := run_store Tryd.prog w a _ m rfl
theorem box_cell (w : World) (c0 c1 c2 c3 c4 : Value) (t : TypeId) : (w.alloc (.cells #[c0, c1, c2, c3, c4] t)).cell? ⟨w.heap.size, 4, none⟩ = some c4 := by
  rw [World.cell?_alloc_mark]; rfl
theorem Grew.box {B : Nat} {w w1 : World} {v v1 : Value} {o : List UInt8} {c0 c1 c2 c3 c4 : Value} {t : TypeId} (h : Grew (w.alloc (.cells #[c0, c1, c2, c3, c4] t)) w1 v v1) (hO : Own w B v o) : w1.cell? ⟨w.heap.size, 4, none⟩ = some c4 := by
  rw [h.cell (p := ⟨w.heap.size, 4, none⟩) (by simp) (fun e => ?_)]
  · exact box_cell w c0 c1 c2 c3 c4 t
  · have := (World.ownsRow.lt hO _ e).2
    simp at this
set_option maxRecDepth 100000 in
set_option maxHeartbeats 2000000 in
theorem write_list (n : Nat) (hIH : WriteOk n) (B : Nat) (v vb vl : Value) (o : List UInt8) (l : List Val) (u f a : Nat) (w : World) (ha : a + (n + 1) = 16) (hl : l.length ≤ 1048576) (ho : o.length ≤ 1048576 + 16 * a) (hB : B ≤ w.heap.size) (hO : Own w B v o)
    (hI : ListIn B w (Reads B w n) vl l) :
    Calls Tryd.prog 65 #[v, .agg #[.int .i64 3, .int .u64 u, vb, .float .f64 f, vl], .int .i64 a] w (EncGives B w v (capE (foldE (encV n) l (o ++ headB 3 l.length)))) := by
  obtain ⟨sa, sc, rfl⟩ := hI.shape
  have hst := run_storeF
  have HO := Lib.hid hO
  have HI := Lib.hid hI
  have HL := Lib.hid (headB_len 3 l.length (by omega))
  have HH := Lib.hid hIH
  generalize hr : o ++ headB 3 l.length = r
  have HRR := Lib.hid hr
  generalize hx : capE (foldE (encV n) l r) = x
  have HX := Lib.hid hx
  clear hO hI hIH hr hx
  go_enter Tryd.func65, Tryd.ntmps65
  go_wp2_with fail
  have hB1 : B ≤ (w.alloc (.cells #[.int .i64 3, .int .u64 u, vb, .float .f64 f, .slice sa l.length sc] 53)).heap.size := by simp; omega
  refine (writeHead_any B 3 l.length v o _ (by omega) (by omega) (by omega) hB1 (World.ownsRow.alloc HO.out _)).mono ?_
  rintro e w1 ⟨v1, rfl, hown, hg1⟩
  have hrl : r.length ≤ 1048576 + 16 * (a + 1) := by have hq := congrArg List.length HRR.out; have := HL.out; simp only [List.length_append] at hq; omega
  rw [HRR.out] at hown
  have hbox := hg1.box HO.out
  have HV := Lib.hid hown
  have HG := Lib.hid ((Grew.alloc w v _).trans hg1)
  clear hown hg1
  go_wp2_with fail
  clear hbox
  go_loopw [0, 44] (fun vo i wr => ∃ (k : Nat) (q : List UInt8), k ≤ l.length ∧ i = .int .i64 k ∧ q.length ≤ 1048576 + 16 * (a + 1) ∧ Own wr B vo q ∧ Grew w wr v vo ∧ foldE (encV n) (l.drop k) q = foldE (encV n) l r)
    (fun _ i _ => l.length - (intOf i).toNat)
  case atStart => exact ⟨0, r, Nat.zero_le _, rfl, hrl, HV.out, HG.out, rfl⟩
  case round =>
    obtain ⟨k, q, hk, rfl, hq, hown, hbr, hfo⟩ := hrel
    have HR := Lib.hid hbr
    have HF := Lib.hid hfo
    have hsz := hbr.size
    have hbw := hbr.below HO.out hB
    clear hbr hfo HV HG
    by_cases hlt : k < l.length
    · rcases HI.out with ⟨_, _, _, h0⟩ | ⟨g, o2, cap, hv, hg, hc⟩
      · rw [h0] at hlt; simp at hlt
      · obtain ⟨x', hx'⟩ : ∃ x', l[k]? = some x' := ⟨_, List.getElem?_eq_getElem hlt⟩
        have HXK := Lib.hid hx'
        obtain ⟨c0, c1, c2, c3, c4, e0, e1, e2, e3, e4, hR⟩ := hc k x' hx'
        injection hv with hv1 _ hv2
        subst hv1 hv2
        have d0 := (hbw.cell (p := ⟨g, o2 + k * 5, none⟩) hg).trans e0
        have d1 := (hbw.cell (p := ⟨g, o2 + k * 5 + 1, none⟩) hg).trans e1
        have d2 := (hbw.cell (p := ⟨g, o2 + k * 5 + 2, none⟩) hg).trans e2
        have d3 := (hbw.cell (p := ⟨g, o2 + k * 5 + 3, none⟩) hg).trans e3
        have d4 := (hbw.cell (p := ⟨g, o2 + k * 5 + 4, none⟩) hg).trans e4
        obtain ⟨k', u', b', f', l'⟩ := x'
        obtain ⟨a1, n1, p1, a2, n2, p2, hsh⟩ := hR.shape
        have hsh2 : [c0, c1, c2, c3, c4] = [.int .i64 k', .int .u64 u', .slice a1 n1 p1, .float .f64 f', .slice a2 n2 p2] := by
          injection hsh with hsh; injection hsh
        injection hsh2 with s0 hsh2
        injection hsh2 with s1 hsh2
        injection hsh2 with s2 hsh2
        injection hsh2 with s3 hsh2
        injection hsh2 with s4 hsh2
        subst s0 s1 s2 s3 s4
        have HRd := Lib.hid hR
        have HOw := Lib.hid hown
        have HBW := Lib.hid hbw
        clear e0 e1 e2 e3 e4 hR hown hbw hc hsh hsh2 hx'
        have hwc := HH.out B u0 _ (.mk k' u' b' f' l') q (a + 1) (wr.alloc (.cells #[.int .i64 k', .int .u64 u', .slice a1 n1 p1, .float .f64 f', .slice a2 n2 p2] 53)) (by omega) hq (by simp; omega) (World.ownsRow.alloc HOw.out _) (Reads.below (HBW.out.alloc (by omega) _) n _ _ HRd.out)
        have e : ((a + 1 : Nat) : Int) = (a : Int) + 1 := by omega
        rw [e] at hwc
        have HC := Lib.hid hwc
        have hdk : l.drop k = Val.mk k' u' b' f' l' :: l.drop (k + 1) := by
          rw [List.drop_eq_getElem_cons hlt]
          have := HXK.out
          rw [List.getElem?_eq_getElem hlt] at this
          injection this with this
          rw [this]
        have hfk := HF.out
        rw [hdk] at hfk
        simp only [foldE] at hfk
        clear hwc e hdk
        cases hy : encV n q (.mk k' u' b' f' l') with
        | error c =>
          rw [hy] at hfk HC
          have hx := HX.out
          rw [← hfk] at hx
          simp only [capE] at hx
          clear HX HF hfk hy
          subst hx
          go_wp2_with fail
          refine HC.out.mono ?_
          rintro e w2 ⟨rfl, hb2, hs2⟩
          go_wp2_with fail
          have hb3 := (HBW.out.alloc (by omega) _).trans hb2
          exact ⟨rfl, rfl, hb3, hb3.size⟩
        | ok q' =>
          rw [hy] at hfk HC
          have HFK := Lib.hid hfk
          have hq2 := enc_len hy
          clear hfk hy HF
          go_wp2_with fail
          refine HC.out.mono ?_
          rintro e w2 ⟨v2, rfl, hown2, hg2⟩
          have HG2 := Lib.hid (HR.out.trans ((Grew.alloc _ _ _).trans hg2))
          have HO2 := Lib.hid hown2
          clear hg2 hown2
          go_wp2_with fail
          go_roundw
          case rel => exact ⟨k + 1, q', by omega, by go_num, by omega, HO2.out, HG2.out, HFK.out⟩
          case measure => simp [intOf]; omega
    · have hd : l.drop k = [] := List.drop_eq_nil_of_le (by omega)
      have hx := HX.out
      rw [← HF.out, hd] at hx
      simp only [foldE] at hx
      clear HX HF hd
      obtain ⟨sa2, sc2, rfl⟩ := own_slice hown
      have HOw := Lib.hid hown
      clear hown hbw
      by_cases hlong : 1048576 < q.length
      · rw [cap_long hlong] at hx
        subst hx
        go_wp2_with fail
        exact ⟨rfl, rfl, HR.out.below HO.out hB, HR.out.size⟩
      · rw [cap_ok hlong] at hx
        subst hx
        go_wp2_with fail
        go_ret
        exact ⟨_, rfl, HOw.out, HR.out⟩
theorem write_ok : ∀ n, WriteOk n
  | 0 => write_deep
  | n + 1 => by
    intro B v xv x o a w ha ho hB hO hR
    obtain ⟨k, u, b, f, l⟩ := x
    obtain ⟨vb, vl, rfl, hu, hf, hb, hl, hI, hL⟩ := hR
    obtain ⟨a1, c1, rfl⟩ := hI.shape
    by_cases h0 : k = 0
    · subst h0
      rw [enc_num]; exact write_num B v _ _ o u f a w (by omega) hu (by omega) hB hO
    by_cases h1 : k = 1
    · subst h1
      rw [enc_bytes]
      by_cases hlong : 1048576 < b.length
      · omega
      · rw [if_neg hlong]; exact write_bytes B v _ _ o b u f a w (by omega) hb (by omega) hB hO hI
    by_cases h2 : k = 2
    · subst h2
      rw [enc_real]; exact write_real B v _ _ o u f a w (by omega) hf (by omega) hB hO
    by_cases h3 : k = 3
    · subst h3
      rw [enc_list]; exact write_list n (write_ok n) B v _ vl o l u f a w ha hl ho hB hO hL
    · rw [enc_other _ _ _ _ _ _ _ h0 h1 h2 h3]
      exact write_other B v _ vl k u f a w (by omega) hB (by simpa using h0) (by simpa using h1) (by simpa using h2) (by simpa using h3)
end Go.Proofs.YtdolonkeanlaoaaDoor
