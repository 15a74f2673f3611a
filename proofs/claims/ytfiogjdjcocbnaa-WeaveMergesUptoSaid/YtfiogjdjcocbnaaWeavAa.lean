/- The walk of the reference's place. -/
import Derived.Test.YtfiogjdjcocbnaaWeavU
import Derived.Test.YtfiogjdjcocbnaaLinV
namespace Go.Proofs.Ytfiogjdjcocbnaa
open Go.RowKit

/-- The place with which a place is paired, or -1. -/
def placeN : List (Nat × Nat) → Nat → Int
  | [], _ => -1
  | p :: r, n => if p.1 = n then (p.2 : Int) else placeN r n
set_option maxRecDepth 100000 in
set_option maxHeartbeats 4000000 in
theorem place_any (S : Nat → Prop) (v : Value) (P : List (Nat × Nat)) (n : Nat) (w : World) (h : PairsK S w v P) (hl : P.length ≤ 4194304) :
    Calls Try.prog 54 #[v, .int .i64 (n : Int)] w fun e w' => e = .returned (.int .i64 (placeN P n)) ∧ ∃ m, w' = w.drewN m := by
  obtain ⟨a, c, rfl⟩ := CellsC.shape h
  have H := Lib.hid (fun m => CellsC.kept h (S' := S) (w' := w.drewN m) (fun k hk => ⟨hk, rfl⟩))
  clear h
  obtain ⟨r, hr⟩ : ∃ r, placeN P n = r := ⟨_, rfl⟩
  have HRR := Lib.hid hr
  rw [hr]
  clear hr
  go_enter Try.func54, Try.ntmps54
  go_wp2_with fail
  go_loopw [5] (fun i wr => ∃ k m : Nat, k ≤ P.length ∧ i = .int .i64 k ∧ wr = w.drewN m ∧ Hid (placeN (P.drop k) n = r)) (fun i _ => P.length - (intOf i).toNat)
  case atStart => exact ⟨0, 0, Nat.zero_le _, rfl, rfl, Lib.hid HRR.out⟩
  case round =>
    obtain ⟨k, m, hk, rfl, rfl, hE⟩ := hrel
    by_cases hlt : k < P.length
    · obtain ⟨g, og, hfa, hgS, hfc1, hfc2, hcq⟩ := CellsC.at (H.out m) (by omega)
      subst hfa
      have hd : P.drop k = P.getD k (0, 0) :: P.drop (k + 1) := by rw [List.drop_eq_getElem_cons hlt, getD_at hlt]
      obtain ⟨q0, q1⟩ := p2_at P k hlt
      have HWX : Hid (∃ m', w.drewN m = w.drewN m') := Lib.hid ⟨m, rfl⟩
      generalize w.drewN m = wx at *
      have c0 : wx.cell? ⟨g, og + k * 2, none⟩ = _ := hcq _ _ q0
      have c1 : wx.cell? ⟨g, og + k * 2 + 1, none⟩ = _ := hcq _ _ q1
      have hE2 := hE.out
      rw [hd] at hE2
      generalize P.getD k (0, 0) = p at *
      obtain ⟨x, y⟩ := p
      simp only at c0 c1
      by_cases hx : x = n
      · have HV : Hid ((y : Int) = r) := Lib.hid (by rw [← hE2]; show _ = (if x = n then (y : Int) else _); rw [if_pos hx])
        have g1 : ((x : Int) == (n : Int)) = true := by rw [beq_iff_eq]; omega
        have g2 : (x == n) = true := by rw [beq_iff_eq]; exact hx
        clear hd q0 q1 hcq hE hE2 hx
        go_wp2_with fail
        go_ret
        exact ⟨by rw [HV.out]; rfl, HWX.out⟩
      · have HV : Hid (placeN (P.drop (k + 1)) n = r) := Lib.hid (by rw [← hE2]; show _ = (if x = n then (y : Int) else _); rw [if_neg hx])
        have g1 : ((x : Int) == (n : Int)) = false := by rw [beq_eq_false_iff_ne]; omega
        have g2 : (x == n) = false := by rw [beq_eq_false_iff_ne]; exact hx
        clear hd q0 q1 hcq hE hE2 hx
        go_wp2_with fail
        go_roundw
        case rel =>
          obtain ⟨m', e⟩ := HWX.out
          exact ⟨k + 1, m', by omega, by go_num, e, HV⟩
        case measure => simp [intOf]; omega
    · have HV : Hid (-1 = r) := Lib.hid (by rw [← hE.out, List.drop_eq_nil_of_le (by omega)]; rfl)
      clear hE
      go_wp2_with fail
      go_ret
      exact ⟨by rw [← HV.out]; rfl, m, rfl⟩
end Go.Proofs.Ytfiogjdjcocbnaa
