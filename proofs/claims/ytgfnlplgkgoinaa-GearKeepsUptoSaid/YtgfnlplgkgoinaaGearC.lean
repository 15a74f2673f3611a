/- Chunks' lengths, plainly, and the walk of the reference's Cut. -/
import Derived.Test.YtgfnlplgkgoinaaGearB
namespace Go.Proofs.Ytgfnlplgkgoinaa
open Go.RowKit

def endAt (least most bits : Nat) (l : List UInt8) (n : Nat) : Bool := decide (n = most) || (decide (least ≤ n) && endsN (l.take n) bits)
def nextFrom (P : Nat → Bool) : Nat → Nat → Nat
  | n, 0 => n
  | n, f + 1 => if P n = true then n else nextFrom P (n + 1) f
theorem nextFrom_bd (P : Nat → Bool) : ∀ (f n : Nat), n ≤ nextFrom P n f ∧ nextFrom P n f ≤ n + f
  | 0, n => by simp only [nextFrom]; omega
  | f + 1, n => by
    simp only [nextFrom]
    have := nextFrom_bd P f (n + 1)
    split <;> omega
def nextLen (least most bits : Nat) (l : List UInt8) : Nat := nextFrom (endAt least most bits l) 1 (l.length - 1)
theorem nextLen_pos (least most bits : Nat) (l : List UInt8) : 1 ≤ nextLen least most bits l := (nextFrom_bd _ _ _).1
theorem nextLen_le (least most bits : Nat) (l : List UInt8) (h : l ≠ []) : nextLen least most bits l ≤ l.length := by
  have h1 := (nextFrom_bd (endAt least most bits l) (l.length - 1) 1).2
  have h2 : 0 < l.length := List.length_pos_iff.2 h
  unfold nextLen; omega
/-- The lengths of the chunks. -/
def cutL (least most bits : Nat) (l : List UInt8) : List Nat := if _h : l = [] then [] else nextLen least most bits l :: cutL least most bits (l.drop (nextLen least most bits l))
termination_by l.length
decreasing_by
  have h1 := nextLen_pos least most bits l
  have h2 : 0 < l.length := List.length_pos_iff.2 _h
  rw [List.length_drop]; omega
/-- What is still to come, where a chunk's first k - 1 bytes end none. -/
def cutRest (least most bits : Nat) (r : List UInt8) (k : Nat) : List Nat :=
  if r = [] then [] else nextFrom (endAt least most bits r) k (r.length - k) :: cutL least most bits (r.drop (nextFrom (endAt least most bits r) k (r.length - k)))
theorem cutRest_one (least most bits : Nat) (r : List UInt8) : cutRest least most bits r 1 = cutL least most bits r := by
  rw [cutL]
  unfold cutRest nextLen
  by_cases h : r = []
  · rw [if_pos h, dif_pos h]
  · rw [if_neg h, dif_neg h]
theorem cutRest_end {least most bits : Nat} {r : List UInt8} {k : Nat} (hr : r ≠ []) (h : endAt least most bits r k = true ∨ k = r.length) : cutRest least most bits r k = k :: cutL least most bits (r.drop k) := by
  have e : nextFrom (endAt least most bits r) k (r.length - k) = k := by
    cases hd : r.length - k with
    | zero => rfl
    | succ f =>
      simp only [nextFrom]
      rcases h with h | h
      · rw [if_pos h]
      · omega
  unfold cutRest
  rw [if_neg hr, e]
theorem cutRest_on {least most bits : Nat} {r : List UInt8} {k : Nat} (hk : k < r.length) (h : endAt least most bits r k = false) : cutRest least most bits r k = cutRest least most bits r (k + 1) := by
  have e : nextFrom (endAt least most bits r) k (r.length - k) = nextFrom (endAt least most bits r) (k + 1) (r.length - (k + 1)) := by
    obtain ⟨f, hf⟩ : ∃ f, r.length - k = f + 1 := ⟨r.length - k - 1, by omega⟩
    rw [hf, show r.length - (k + 1) = f by omega]
    simp only [nextFrom]
    rw [if_neg (by rw [h]; decide)]
  unfold cutRest
  rw [e]
set_option maxRecDepth 100000 in
set_option maxHeartbeats 2000000 in
theorem rcut_any (s : List UInt8) (least most bits : Nat) (w : World) (hs : s.length ≤ 4194304) (hm : most ≤ 1048576) (hb : bits ≤ 20) :
    Calls Try.prog 16 #[.string ⟨s.toArray⟩, .int .i64 least, .int .i64 most, .int .i64 bits] w fun e w' => ∃ v, e = .returned v ∧ OwnI w' w.heap.size v (cutL least most bits s) ∧ Below w.heap.size w w' := by
  obtain ⟨i0, hi, hz0, hz1, hz2⟩ := info_parts Try.info3
  go_enter Try.func16, Try.ntmps16
  go_wp2_with fail
  go_loopw [9, 10, 11] (fun vo fr i wr => ∃ (out : List Nat) (f k : Nat), fr = .int .i64 f ∧ i = .int .i64 k ∧ f < k ∧ k ≤ s.length + 1 ∧ (k = s.length + 1 → f = s.length) ∧ out.length ≤ f ∧ OwnI wr w.heap.size vo out ∧ Below w.heap.size w wr ∧
      cutL least most bits s = out ++ cutRest least most bits (s.drop f) (k - f))
    (fun _ _ i _ => s.length + 1 - (intOf i).toNat)
  case atStart =>
    refine ⟨[], 0, 1, rfl, rfl, by omega, by omega, fun h => by omega, by simp, ownI_nil _ _, Below.refl _ _, ?_⟩
    rw [List.drop_zero, cutRest_one, List.nil_append]
  case round =>
    obtain ⟨out, f, k, rfl, rfl, hfk, hk, hkl, hol, hown, hbel, hcut⟩ := hrel
    have HOW := Lib.hid hown
    have HBE := Lib.hid hbel
    have HCU := Lib.hid hcut
    have hsz := hbel.size
    clear hown hbel hcut
    by_cases hlt : k ≤ s.length
    · have hrl : (s.drop f).length = s.length - f := by rw [List.length_drop]
      have hrne : s.drop f ≠ [] := by intro h; rw [h] at hrl; simp at hrl; omega
      have hex : (⟨s.toArray⟩ : ByteArray).extract f k = ⟨((s.drop f).take (k - f)).toArray⟩ := extract_list s f k
      have HEX := Lib.hid hex
      have htl : ((s.drop f).take (k - f)).length ≤ 4194304 := by rw [List.length_take]; omega
      have HEN := Lib.hid (fun w => rends_any ((s.drop f).take (k - f)) bits w htl hb)
      have HEA : Hid (endAt least most bits (s.drop f) (k - f) = (decide (k - f = most) || (decide (least ≤ k - f) && endsN ((s.drop f).take (k - f)) bits))) := Lib.hid rfl
      have hkf : ((k : Int) - (f : Int)) = ((k - f : Nat) : Int) := by omega
      have HKF := Lib.hid hkf
      have HR : Hid ((endAt least most bits (s.drop f) (k - f) = true ∨ k - f = (s.drop f).length) → cutL least most bits s = (out ++ [k - f]) ++ cutRest least most bits (s.drop k) 1) := Lib.hid (fun h => by
        rw [HCU.out, cutRest_end hrne h, cutRest_one, List.append_assoc, List.drop_drop, show f + (k - f) = k by omega]; rfl)
      have HN : Hid (endAt least most bits (s.drop f) (k - f) = false → k < s.length → cutL least most bits s = out ++ cutRest least most bits (s.drop f) (k + 1 - f)) := Lib.hid (fun h h2 => by
        rw [HCU.out, cutRest_on (by omega) h, show k - f + 1 = k + 1 - f by omega])
      clear hkf hex htl
      generalize endsN ((s.drop f).take (k - f)) bits = en at *
      generalize endAt least most bits (s.drop f) (k - f) = ea at *
      by_cases h1 : k - f = most
      · have g1 : (((k : Int) - (f : Int)) == (most : Int)) = true := by rw [beq_iff_eq]; omega
        have hev : ea = true := by rw [HEA.out]; simp [h1]
        have HEV := Lib.hid hev
        clear hev h1
        go_wp2_with (at_builtin; refine wpList_own_src _ rfl _ _ 26 26 rfl w.heap.size 3 i0 (.int .i64 0) 1 8 Try.underlying26 hi hz0 hz1 hz2 rfl (by decide) _ _ _ rfl (World.ownsRow.alloc HOW.out _) _ 1 [.int .i64 ((k : Int) - (f : Int))] rfl (srcI_one _ _) ?c13 ?c14 ?c15 ?_)
        case c13 => unfold maxLen; omega
        case c14 => omega
        case c15 => simp; omega
        intro v2 w2 hown2 hg2
        have HO2 := Lib.hid (ownI_push (k - f) HKF.out hown2)
        have HB2 := Lib.hid ((HBE.out.alloc (by omega) _).grown hg2.gb (by simp; omega) (fun j hj => (World.ownsRow.lt HOW.out j hj).1))
        clear hown2 hg2
        have HQ := Lib.hid (HR.out (Or.inl HEV.out))
        go_wp2_with fail
        go_roundw
        case rel => exact ⟨out ++ [k - f], k, k + 1, rfl, by go_num, by omega, by omega, fun h => by omega, by simp; omega, HO2.out, HB2.out, by rw [show k + 1 - k = 1 by omega]; exact HQ.out⟩
        case measure => simp [intOf]; omega
      have g1 : (((k : Int) - (f : Int)) == (most : Int)) = false := by rw [beq_eq_false_iff_ne]; omega
      by_cases h2 : k = s.length
      · have g2 : ((k : Int) == (s.length : Int)) = true := by rw [beq_iff_eq]; omega
        have hev : k - f = (s.drop f).length := by rw [hrl]; omega
        have HEV := Lib.hid hev
        have H2 := Lib.hid h2
        clear hev h1 h2
        go_wp2_with (at_builtin; refine wpList_own_src _ rfl _ _ 26 26 rfl w.heap.size 3 i0 (.int .i64 0) 1 8 Try.underlying26 hi hz0 hz1 hz2 rfl (by decide) _ _ _ rfl (World.ownsRow.alloc HOW.out _) _ 1 [.int .i64 ((k : Int) - (f : Int))] rfl (srcI_one _ _) ?c23 ?c24 ?c25 ?_)
        case c23 => unfold maxLen; omega
        case c24 => omega
        case c25 => simp; omega
        intro v2 w2 hown2 hg2
        have HO2 := Lib.hid (ownI_push (k - f) HKF.out hown2)
        have HB2 := Lib.hid ((HBE.out.alloc (by omega) _).grown hg2.gb (by simp; omega) (fun j hj => (World.ownsRow.lt HOW.out j hj).1))
        clear hown2 hg2
        have HQ := Lib.hid (HR.out (Or.inr HEV.out))
        go_wp2_with fail
        go_roundw
        case rel => exact ⟨out ++ [k - f], k, k + 1, rfl, by go_num, by omega, by omega, fun h => by omega, by simp; omega, HO2.out, HB2.out, by rw [show k + 1 - k = 1 by omega]; exact HQ.out⟩
        case measure => simp [intOf]; omega
      have g2 : ((k : Int) == (s.length : Int)) = false := by rw [beq_eq_false_iff_ne]; omega
      have hk2 : k < s.length := by omega
      by_cases h3 : least ≤ k - f
      · have g3 : decide ((least : Int) ≤ (k : Int) - (f : Int)) = true := by simp; omega
        have H3 := Lib.hid h3
        have H1 := Lib.hid h1
        clear h1 h2 h3
        go_wp2_with fail
        rw [HEX.out]
        refine (HEN.out _).mono ?_
        rintro e w' ⟨rfl, rfl⟩
        cases en with
        | true =>
          have hev : ea = true := by rw [HEA.out]; simp [H3.out]
          have HEV := Lib.hid hev
          clear hev
          go_wp2_with (at_builtin; refine wpList_own_src _ rfl _ _ 26 26 rfl w.heap.size 3 i0 (.int .i64 0) 1 8 Try.underlying26 hi hz0 hz1 hz2 rfl (by decide) _ _ _ rfl (World.ownsRow.alloc HOW.out _) _ 1 [.int .i64 ((k : Int) - (f : Int))] rfl (srcI_one _ _) ?c33 ?c34 ?c35 ?_)
          case c33 => unfold maxLen; omega
          case c34 => omega
          case c35 => simp; omega
          intro v2 w2 hown2 hg2
          have HO2 := Lib.hid (ownI_push (k - f) HKF.out hown2)
          have HB2 := Lib.hid ((HBE.out.alloc (by omega) _).grown hg2.gb (by simp; omega) (fun j hj => (World.ownsRow.lt HOW.out j hj).1))
          clear hown2 hg2
          have HQ := Lib.hid (HR.out (Or.inl HEV.out))
          go_wp2_with fail
          go_roundw
          case rel => exact ⟨out ++ [k - f], k, k + 1, rfl, by go_num, by omega, by omega, fun h => by omega, by simp; omega, HO2.out, HB2.out, by rw [show k + 1 - k = 1 by omega]; exact HQ.out⟩
          case measure => simp [intOf]; omega
        | false =>
          have hev : ea = false := by rw [HEA.out]; simp [H1.out]
          have HEV := Lib.hid hev
          clear hev
          have HQ := Lib.hid (HN.out (HEV.out) (by omega))
          go_wp2_with fail
          go_roundw
          case rel => exact ⟨out, f, k + 1, rfl, by go_num, by omega, by omega, fun h => by omega, hol, HOW.out, HBE.out, HQ.out⟩
          case measure => simp [intOf]; omega
      · have g3 : decide ((least : Int) ≤ (k : Int) - (f : Int)) = false := by simp; omega
        have hev : ea = false := by rw [HEA.out]; simp [h1, h3]
        have HEV := Lib.hid hev
        clear hev h1 h2 h3
        have HQ := Lib.hid (HN.out (HEV.out) (by omega))
        go_wp2_with fail
        go_roundw
        case rel => exact ⟨out, f, k + 1, rfl, by go_num, by omega, by omega, fun h => by omega, hol, HOW.out, HBE.out, HQ.out⟩
        case measure => simp [intOf]; omega
    · have hks : k = s.length + 1 := by omega
      have hfs := hkl hks
      have hd : s.drop f = [] := List.drop_eq_nil_of_le (by omega)
      have hc := HCU.out
      rw [hd] at hc
      simp only [cutRest, if_true, List.append_nil] at hc
      have HC := Lib.hid hc
      clear hc hd hfs
      go_wp2_with fail
      go_ret
      exact ⟨_, rfl, by rw [HC.out]; exact HOW.out, HBE.out⟩
end Go.Proofs.Ytgfnlplgkgoinaa
