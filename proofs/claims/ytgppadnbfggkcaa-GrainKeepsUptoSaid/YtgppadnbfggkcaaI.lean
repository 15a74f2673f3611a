/- The walk of the reference's write. -/
import Derived.Test.YtgppadnbfggkcaaE
import Derived.Test.YtgppadnbfggkcaaH
namespace Go.Proofs.Ytgppadnbfggkcaa
open Go.RowKit

def RGives (B : Nat) (w : World) (v : Value) (r : Except Int (List UInt8)) (e : Ending) (w' : World) : Prop :=
  match r with
  | .ok o => ∃ v', e = .returned (.tuple #[v', .int .i64 0]) ∧ Own w' B v' o ∧ Grew w w' v v'
  | .error c => e = .returned (.tuple #[.slice none 0 0, .int .i64 c]) ∧ Below B w w' ∧ w.heap.size ≤ w'.heap.size
def RWriteOk (n : Nat) : Prop := ∀ (B : Nat) (v xv : Value) (x : Val) (o : List UInt8) (a : Nat) (w : World), a + n = 16 → o.length ≤ 1048576 + 16 * a → B ≤ w.heap.size → Own w B v o → Reads B w n xv x →
    Calls Try.prog 23 #[v, xv, .int .i64 (a + 1 : Nat)] w (RGives B w v (encV n o x))
set_option maxRecDepth 100000 in
set_option maxHeartbeats 1000000 in
theorem rwrite_deep : RWriteOk 0 := by
  intro B v xv x o a w ha ho hB hO hR
  obtain ⟨k, u, b, f, l⟩ := x
  obtain ⟨a1, n1, c1, a2, n2, c2, rfl⟩ := hR.shape
  have e : a = 16 := by omega
  subst e
  clear hR hO
  go_enter Try.func23, Try.ntmps23
  go_wp2
  go_ret2
  exact ⟨rfl, (Below.refl _ _).alloc hB _, by simp⟩
set_option maxRecDepth 100000 in
set_option maxHeartbeats 1000000 in
theorem rwrite_other (B : Nat) (v vb vl : Value) (k : Int) (u f a : Nat) (w : World) (ha : a < 16) (hB : B ≤ w.heap.size) (h0 : (k == 0) = false) (h1 : (k == 1) = false) (h2 : (k == 2) = false) (h3 : (k == 3) = false) :
    Calls Try.prog 23 #[v, .agg #[.int .i64 k, .int .u64 u, vb, .float .f64 f, vl], .int .i64 (a + 1 : Nat)] w (RGives B w v (.error 22)) := by
  go_enter Try.func23, Try.ntmps23
  go_wp2
  go_ret2
  exact ⟨rfl, (Below.refl _ _).alloc hB _, by simp⟩
theorem Grew.ofBelow {w w' : World} {v : Value} (h : Below w.heap.size w w') : Grew w w' v v := ⟨⟨h.os, h.tape, h.output, h.size, fun k hk _ => h.block k hk⟩, fun _ h => Or.inl h⟩
theorem Own.below {w w' : World} {B : Nat} {v : Value} {l : List UInt8} (h : Own w B v l) (hb : Below w.heap.size w w') : Own w' B v l := by
  refine ⟨h.1, ?_⟩
  rcases h.2 with h2 | ⟨g, cap, cur, h1, h2, h3, h4⟩
  · exact Or.inl h2
  · refine Or.inr ⟨g, cap, cur, h1, h2, ?_, h4⟩
    rw [hb.block g (Array.getElem?_eq_some_iff.1 h3).1]; exact h3
theorem Grew.boxAt {B : Nat} {w w1 : World} {v v1 : Value} {o : List UInt8} {cs : Array Value} {t : TypeId} (h : Grew (w.alloc (.cells cs t)) w1 v v1) (hO : Own w B v o) (j : Nat) {c : Value} (hc : cs[j]? = some c) : w1.cell? ⟨w.heap.size, j, none⟩ = some c := by
  rw [h.cell (p := ⟨w.heap.size, j, none⟩) (by simp) (fun e => ?_)]
  · rw [World.cell?_alloc_mark]; exact hc
  · have := (World.ownsRow.lt hO _ e).2
    simp at this
set_option maxRecDepth 100000 in
set_option maxHeartbeats 1000000 in
theorem rwrite_num (B : Nat) (v vb vl : Value) (o : List UInt8) (u f a : Nat) (w : World) (ha : a < 16) (hu : u < 18446744073709551616) (ho : o.length ≤ 2097152) (hB : B ≤ w.heap.size) (hO : Own w B v o) :
    Calls Try.prog 23 #[v, .agg #[.int .i64 0, .int .u64 u, vb, .float .f64 f, vl], .int .i64 (a + 1 : Nat)] w (RGives B w v (capE (.ok (o ++ headB 0 u)))) := by
  obtain ⟨i0, hi, hz0, hz1, hz2⟩ := info_parts Try.info5
  have HO := Lib.hid hO
  have HL := Lib.hid (headB_len 0 u hu)
  have HC := Lib.hid (fun w => rhead_any 0 u w (by omega) hu)
  generalize headB 0 u = hd at *
  generalize hr : o ++ hd = r
  have HRR := Lib.hid hr
  clear hr
  generalize hx : capE (.ok r) = x
  have HX := Lib.hid hx
  clear hx hO hu
  go_enter Try.func23, Try.ntmps23
  go_wp2_with fail
  refine (HC.out _).mono ?_
  rintro e w1 ⟨rfl, hb1⟩
  have hg1 : Grew w w1 v v := (Grew.alloc w v _).trans (Grew.ofBelow hb1)
  have hO1 : Own w1 B v o := Own.below (World.ownsRow.alloc HO.out _) hb1
  go_wp2_with (at_builtin; refine wpList_own_src _ rfl _ _ 23 9 rfl B 5 i0 (.int .u8 0) 1 1 Try.underlying23 hi hz0 hz1 hz2 rfl (by decide) _ _ _ rfl hO1 _ _ _ rfl (src_string _ _) ?c3 ?c4 ?c5 ?_)
  case c3 => have := HL.out; unfold maxLen; omega
  case c4 => have := HL.out; omega
  case c5 => have := hg1.size; omega
  intro v2 w2 hown2 hg2
  have hown : Own w2 B v2 r := by rw [← HRR.out]; exact own_more' rfl hown2
  have hgr := hg1.trans hg2
  clear hown2 hg2 hO1 hg1 hb1
  have hrl : r.length ≤ 4194304 := by have hq := congrArg List.length HRR.out; have := HL.out; simp only [List.length_append] at hq; omega
  obtain ⟨sa, sc, rfl⟩ := own_slice hown
  have HV := Lib.hid hown
  have HG := Lib.hid hgr
  clear hown hgr
  by_cases hlong : 1048576 < r.length
  · have hx := HX.out.symm.trans (cap_long hlong)
    clear HX
    subst hx
    go_wp2_with fail
    go_ret2
    exact ⟨rfl, HG.out.below HO.out hB, HG.out.size⟩
  · have hx := HX.out.symm.trans (cap_ok hlong)
    clear HX
    subst hx
    go_wp2_with fail
    go_ret2
    exact ⟨_, rfl, HV.out, HG.out⟩
set_option maxRecDepth 100000 in
set_option maxHeartbeats 1000000 in
theorem rwrite_bytes (B : Nat) (v vb vl : Value) (o b : List UInt8) (u f a : Nat) (w : World) (ha : a < 16) (hb : b.length ≤ 1048576) (ho : o.length ≤ 2097152) (hB : B ≤ w.heap.size) (hO : Own w B v o) (hI : BytesIn B w vb b) :
    Calls Try.prog 23 #[v, .agg #[.int .i64 1, .int .u64 u, vb, .float .f64 f, vl], .int .i64 (a + 1 : Nat)] w (RGives B w v (capE (.ok (o ++ headB 1 b.length ++ b)))) := by
  obtain ⟨i0, hi, hz0, hz1, hz2⟩ := info_parts Try.info5
  obtain ⟨p1, q1, rfl⟩ := hI.shape
  have HO := Lib.hid hO
  have HI := Lib.hid hI
  have HL := Lib.hid (headB_len 1 b.length (by omega))
  have HC := Lib.hid (fun w => rhead_any 1 b.length w (by omega) (by omega))
  generalize headB 1 b.length = hd at *
  generalize hr : o ++ hd ++ b = r
  have HRR := Lib.hid hr
  clear hr
  generalize hx : capE (.ok r) = x
  have HX := Lib.hid hx
  clear hx hO hI
  go_enter Try.func23, Try.ntmps23
  go_wp2_with fail
  refine (HC.out _).mono ?_
  rintro e w1 ⟨rfl, hb1⟩
  have hg0 : Grew (w.alloc (.cells #[.int .i64 1, .int .u64 u, .slice p1 b.length q1, .float .f64 f, vl] 27)) w1 v v := Grew.ofBelow hb1
  have hO1 : Own w1 B v o := Own.below (World.ownsRow.alloc HO.out _) hb1
  go_wp2_with (at_builtin; refine wpList_own_src _ rfl _ _ 23 9 rfl B 5 i0 (.int .u8 0) 1 1 Try.underlying23 hi hz0 hz1 hz2 rfl (by decide) _ _ _ rfl hO1 _ _ _ rfl (src_string _ _) ?c3 ?c4 ?c5 ?_)
  case c3 => have := HL.out; unfold maxLen; omega
  case c4 => have := HL.out; omega
  case c5 => have := hg0.size; simp at this; omega
  intro v2 w2 hown2 hg2
  have hO2 : Own w2 B v2 (o ++ hd) := own_more' rfl hown2
  have hg3 := hg0.trans hg2
  have hbox := hg3.boxAt HO.out 2 rfl
  have hI2 := HI.out.below (((Grew.alloc w v _).trans hg3).below HO.out hB)
  have HG3 := Lib.hid hg3
  have hs2 := hg3.size
  clear hown2 hg2 hO1 hg0 hb1 hg3
  go_wp2_with (at_builtin; refine wpList_own_src _ rfl _ _ 23 23 rfl B 5 i0 (.int .u8 0) 1 1 Try.underlying23 hi hz0 hz1 hz2 rfl (by decide) _ _ _ rfl hO2 _ _ _ rfl hI2.src ?d3 ?d4 ?d5 ?_)
  case d3 => have := HL.out; simp only [List.length_append]; unfold maxLen; omega
  case d4 => have := HL.out; simp only [List.length_append]; omega
  case d5 => simp at hs2; omega
  intro v3 w3 hown3 hg4
  have hown : Own w3 B v3 r := by rw [← HRR.out]; exact own_more' (by simp) hown3
  have hgr := (Grew.alloc w v _).trans (HG3.out.trans hg4)
  clear hown3 hg4 hO2 hI2 hbox hs2
  have hrl : r.length ≤ 4194304 := by have hq := congrArg List.length HRR.out; have := HL.out; simp only [List.length_append] at hq; omega
  obtain ⟨sa, sc, rfl⟩ := own_slice hown
  have HV := Lib.hid hown
  have HG := Lib.hid hgr
  clear hown hgr
  by_cases hlong : 1048576 < r.length
  · have hx := HX.out.symm.trans (cap_long hlong)
    clear HX
    subst hx
    go_wp2_with fail
    go_ret2
    exact ⟨rfl, HG.out.below HO.out hB, HG.out.size⟩
  · have hx := HX.out.symm.trans (cap_ok hlong)
    clear HX
    subst hx
    go_wp2_with fail
    go_ret2
    exact ⟨_, rfl, HV.out, HG.out⟩
theorem place_div (k : Nat) (h : k < 8) : 2 ^ (8 * (7 - k)) / 256 = if k = 7 then 0 else 2 ^ (8 * (7 - (k + 1))) := by
  have : ∀ k : Fin 8, 2 ^ (8 * (7 - k.val)) / 256 = if k.val = 7 then 0 else 2 ^ (8 * (7 - (k.val + 1))) := by decide
  exact this ⟨k, h⟩
theorem place_bd (k : Nat) : 1 ≤ 2 ^ (8 * (7 - k)) ∧ 2 ^ (8 * (7 - k)) ≤ 72057594037927936 := by
  refine ⟨Nat.two_pow_pos _, ?_⟩
  have := Nat.pow_le_pow_right (n := 2) (by omega) (show 8 * (7 - k) ≤ 56 by omega)
  simpa using this
def placeN (k : Nat) : Nat := if k = 8 then 0 else 2 ^ (8 * (7 - k))
set_option maxRecDepth 100000 in
set_option maxHeartbeats 2000000 in
theorem rwrite_real (B : Nat) (v vb vl : Value) (o : List UInt8) (u f a : Nat) (w : World) (ha : a < 16) (hf : f < 18446744073709551616) (ho : o.length ≤ 2097152) (hB : B ≤ w.heap.size) (hO : Own w B v o) :
    Calls Try.prog 23 #[v, .agg #[.int .i64 2, .int .u64 u, vb, .float .f64 f, vl], .int .i64 (a + 1 : Nat)] w (RGives B w v (capE (.ok (o ++ floatL f)))) := by
  obtain ⟨i0, hi, hz0, hz1, hz2⟩ := info_parts Try.info5
  have HO := Lib.hid hO
  have HL := Lib.hid (headB_len 2 0 (by omega))
  have HC := Lib.hid (fun w => rhead_any 2 0 w (by omega) (by omega))
  have HBT := Lib.hid (rbits_any f)
  have HFL : Hid (floatL f = headB 2 0 ++ be8 (canonB f)) := Lib.hid rfl
  have HXL := Lib.hid (canonB_lt hf)
  generalize canonB f = z at *
  generalize headB 2 0 = hd at *
  generalize hr : o ++ floatL f = r
  have HRR := Lib.hid hr
  clear hr
  generalize hx : capE (.ok r) = x
  have HX := Lib.hid hx
  clear hx hO hf
  go_enter Try.func23, Try.ntmps23
  go_wp2_with fail
  refine (HC.out _).mono ?_
  rintro e w1 ⟨rfl, hb1⟩
  have hg0 : Grew (w.alloc (.cells #[.int .i64 2, .int .u64 u, vb, .float .f64 f, vl] 27)) w1 v v := Grew.ofBelow hb1
  have hO1 : Own w1 B v o := Own.below (World.ownsRow.alloc HO.out _) hb1
  go_wp2_with (at_builtin; refine wpList_own_src _ rfl _ _ 23 9 rfl B 5 i0 (.int .u8 0) 1 1 Try.underlying23 hi hz0 hz1 hz2 rfl (by decide) _ _ _ rfl hO1 _ _ _ rfl (src_string _ _) ?c3 ?c4 ?c5 ?_)
  case c3 => have := HL.out; unfold maxLen; omega
  case c4 => have := HL.out; omega
  case c5 => have := hg0.size; simp at this; omega
  intro v2 w2 hown2 hg2
  have hO2 : Own w2 B v2 (o ++ hd) := own_more' rfl hown2
  have hg3 := hg0.trans hg2
  have hbox := hg3.boxAt HO.out 3 rfl
  have HO2 := Lib.hid hO2
  have HG3 := Lib.hid ((Grew.alloc w v _).trans hg3)
  have hs2 := HG3.out.size
  clear hown2 hg2 hO1 hg0 hb1 hg3 hO2
  go_wp2_with fail
  refine (HBT.out _).mono ?_
  rintro e w' ⟨rfl, rfl⟩
  go_wp2_with fail
  clear hbox
  go_loopw [0, 9, 10] (fun vo p i wr => ∃ k : Nat, k ≤ 8 ∧ i = .int .i64 k ∧ p = .int .u64 (placeN k) ∧ Own wr B vo (o ++ hd ++ (be8 z).take k) ∧ Grew w wr v vo)
    (fun _ _ i _ => 8 - (intOf i).toNat)
  case atStart => exact ⟨0, by omega, rfl, rfl, by simpa using HO2.out, HG3.out⟩
  case round =>
    obtain ⟨k, hk, rfl, rfl, hown, hgr⟩ := hrel
    have hsz := hgr.size
    have HR := Lib.hid hgr
    clear hgr HO2 HG3 hs2
    by_cases h8 : k < 8
    · have HT := Lib.hid (be8_take z k h8)
      have hp : placeN k = 2 ^ (8 * (7 - k)) := by unfold placeN; rw [if_neg (by omega)]
      have hpd : 2 ^ (8 * (7 - k)) / 256 = placeN (k + 1) := by
        rw [place_div k h8]; unfold placeN; split
        · rw [if_pos (by omega)]
        · rw [if_neg (by omega)]
      have HPD := Lib.hid hpd
      have HPB := Lib.hid (place_bd k)
      rw [hp]
      clear hp hpd
      generalize 2 ^ (8 * (7 - k)) = pl at *
      have hp1 : 1 ≤ pl := HPB.out.1
      have hp0 : ((pl : Int) == 0) = false := by rw [beq_eq_false_iff_ne]; omega
      have hlk : (o ++ hd ++ (be8 z).take k).length ≤ 2097200 := by
        have := HL.out
        simp only [List.length_append, List.length_take]; omega
      generalize hl2 : o ++ hd ++ (be8 z).take k = l2 at *
      have HL2 := Lib.hid hl2
      clear hl2
      have hzl : z / pl < 18446744073709551616 := by
        have := Nat.div_le_self z pl
        have := HXL.out
        omega
      generalize hzd : z / pl = d at *
      have e : (z : Int) / (pl : Int) = (d : Int) := by rw [← hzd, Int.natCast_ediv]
      have hw1 : IntKind.u64.wrap ((z : Int) / (pl : Int)) = (d : Int) := by rw [e, IntKind.wrap_u64]; omega
      clear hzd e
      go_wp2_with (at_builtin; refine wpList_own_src _ rfl _ _ 23 23 rfl B 5 i0 (.int .u8 0) 1 1 Try.underlying23 hi hz0 hz1 hz2 rfl (by decide) _ _ _ rfl (hown.alloc _) _ 1 [.int .u8 ((d : Int) % 256)] rfl (src_one _ _) ?c3 ?c4 ?c5 ?_)
      case c3 => unfold maxLen; omega
      case c4 => omega
      case c5 => simp; omega
      intro v3 w3 hown' hgrow
      have HG := Lib.hid (HR.out.trans ((Grew.alloc _ _ _).trans hgrow))
      have HV := Lib.hid (own_push (d % 256) (by omega) (by omega) hown')
      clear hown' hown hgrow
      go_wp2_with fail
      go_roundw
      case rel => exact ⟨k + 1, by omega, by go_num, congrArg (Value.int .u64) (by have := HPB.out.2; rw [← HPD.out, IntKind.wrap_u64]; omega), by rw [HT.out, ← List.append_assoc, HL2.out]; exact HV.out, HG.out⟩
      case measure => simp [intOf]; omega
    · have hk8 : k = 8 := by omega
      subst hk8
      rw [be8_all, List.append_assoc, ← HFL.out, HRR.out] at hown
      have hgr := HR.out
      have hrl : r.length ≤ 4194304 := by have hq := congrArg List.length HRR.out; rw [HFL.out] at hq; have := HL.out; unfold be8 at hq; simp at hq; omega
      obtain ⟨sa, sc, rfl⟩ := own_slice hown
      have HV := Lib.hid hown
      have HG := Lib.hid hgr
      clear hown hgr
      by_cases hlong : 1048576 < r.length
      · have hx := HX.out.symm.trans (cap_long hlong)
        clear HX
        subst hx
        go_wp2_with fail
        go_ret2
        exact ⟨rfl, HG.out.below HO.out hB, HG.out.size⟩
      · have hx := HX.out.symm.trans (cap_ok hlong)
        clear HX
        subst hx
        go_wp2_with fail
        go_ret2
        exact ⟨_, rfl, HV.out, HG.out⟩
end Go.Proofs.Ytgppadnbfggkcaa
