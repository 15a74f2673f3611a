/- Sums of numbers; the walks of math.NaN and score.Total. -/
import Derived.Test.YtaajfekolokaoaaScA
namespace Go.Proofs.Ytaajfekolokaoaa
open Go.RowKit

/-- The sum of some numbers in their order, where no sum on the way is none; what is no number is passed over. -/
def sumF : List Nat → Nat → Option Nat
  | [], s => some s
  | x :: r, s => if nanB x = true then sumF r s else match Ieee.double.add s x with | some z => sumF r z | none => none
def oddN (l : List Nat) : Nat := (l.filter nanB).length
def floatsAt (S : Nat → Prop) (w : World) (a : Option Addr) (l : List Nat) : Prop := ∀ k, k < l.length → ∃ g o, a = some ⟨g, o, none⟩ ∧ S g ∧ w.cell? ⟨g, o + k, none⟩ = some (.float .f64 (l.getD k 0))
theorem takeN_snoc (l : List Nat) (k : Nat) (h : k < l.length) : l.take (k + 1) = l.take k ++ [l.getD k 0] := by
  rw [List.take_succ_eq_append_getElem h]; simp [List.getD, h]
theorem dropN_at {l : List Nat} {k : Nat} (h : k < l.length) : l.drop k = l.getD k 0 :: l.drop (k + 1) := by
  rw [List.drop_eq_getElem_cons h]
  simp [List.getD, List.getElem?_eq_getElem h]
theorem oddN_snoc (l : List Nat) (k : Nat) (h : k < l.length) : oddN (l.take (k + 1)) = oddN (l.take k) + (nanB (l.getD k 0)).toNat := by
  rw [takeN_snoc l k h]
  unfold oddN
  rw [List.filter_append, List.length_append]
  generalize l.getD k 0 = y
  cases hx : nanB y <;> simp [hx]
theorem oddN_le (l : List Nat) : oddN l ≤ l.length := List.length_filter_le _ _
theorem run_add {x y z : Nat} (h : Ieee.double.add x y = some z) (w : World) : (binOp .add 24 (.float .f64 x) (.float .f64 y)).run Try.prog w = .ok (.float .f64 z) w :=
  run_float_arith w .add 24 .f64 x y z h
theorem nan_any (w : World) : Calls Try.prog 20 #[] w fun e w' => e = .returned (.float .f64 9221120237041090561) ∧ w = w' := by
  have h27 := fb27
  go_enter Try.func20, Try.ntmps20
  go_wp2
  go_ret
  exact ⟨rfl, rfl⟩
set_option maxRecDepth 100000 in
set_option maxHeartbeats 1000000 in
theorem total_any (S : Nat → Prop) (a : Option Addr) (l : List Nat) (cap z : Nat) (w : World) (hl : l.length ≤ 1048576) (hF : floatsAt S w a l) (hs : sumF l 0 = some z) :
    Calls Try.prog 19 #[.slice a l.length cap] w fun e w' => e = .returned (.tuple #[.float .f64 (canonB z), .int .i64 (oddN l : Nat)]) ∧ w = w' := by
  have HF := Lib.hid hF
  have HS : Hid (sumF (l.drop 0) 0 = some z) := Lib.hid hs
  clear hF hs
  go_enter Try.func19, Try.ntmps19
  go_wp2_with fail
  go_loop [4, 5, 10] (fun s p i => ∃ (k x : Nat), k ≤ l.length ∧ i = .int .i64 (k : Int) ∧ s = .float .f64 x ∧ p = .int .i64 (oddN (l.take k) : Nat) ∧ Hid (sumF (l.drop k) x = some z)) (fun _ _ i => l.length - (intOf i).toNat)
  case atStart => exact ⟨0, 0, Nat.zero_le _, rfl, rfl, rfl, HS⟩
  case round =>
    obtain ⟨k, x, hk, rfl, rfl, rfl, hE⟩ := hrel
    have hol := oddN_le (l.take k)
    rw [List.length_take] at hol
    by_cases hlt : k < l.length
    · obtain ⟨g, o, rfl, sg, hc⟩ := HF.out k hlt
      have HO := Lib.hid (oddN_snoc l k hlt)
      have hE2 := hE.out
      rw [dropN_at hlt] at hE2
      generalize oddN (l.take k) = q at *
      generalize hy : l.getD k 0 = y at *
      clear hy hE
      cases hn : nanB y
      · have ha : ∃ t, Ieee.double.add x y = some t ∧ sumF (l.drop (k + 1)) t = some z := by
          unfold sumF at hE2
          rw [if_neg (by simp [hn])] at hE2
          split at hE2
          · rename_i t ht; exact ⟨t, ht, hE2⟩
          · cases hE2
        obtain ⟨t, ht, hz⟩ := ha
        have hq := run_add ht
        have HZ := Lib.hid hz
        have HQ : Hid (oddN (l.take (k + 1)) = q) := Lib.hid (by rw [HO.out, hn]; rfl)
        clear ht hz hE2
        go_wp2_with fail
        refine (isnan_any _ _).mono ?_
        rintro e w' ⟨rfl, rfl⟩
        rw [hn]
        go_wp2_with fail
        go_round
        case rel => exact ⟨k + 1, t, by omega, by go_num, rfl, by rw [HQ.out], HZ⟩
        case measure => simp [intOf]; omega
      · have HZ : Hid (sumF (l.drop (k + 1)) x = some z) := Lib.hid (by
          unfold sumF at hE2
          rwa [if_pos hn] at hE2)
        have HQ : Hid (oddN (l.take (k + 1)) = q + 1) := Lib.hid (by rw [HO.out, hn]; rfl)
        clear hE2
        go_wp2_with fail
        refine (isnan_any _ _).mono ?_
        rintro e w' ⟨rfl, rfl⟩
        rw [hn]
        go_wp2_with fail
        go_round
        case rel => exact ⟨k + 1, x, by omega, by go_num, rfl, by rw [HQ.out]; go_num, HZ⟩
        case measure => simp [intOf]; omega
    · have HZ : Hid (x = z) := Lib.hid (by
        have h := hE.out
        rw [List.drop_of_length_le (by omega)] at h
        unfold sumF at h
        exact Option.some.inj h)
      have HK : Hid (l.take k = l) := Lib.hid (List.take_of_length_le (by omega))
      rw [HK.out]
      clear hE
      go_wp2_with fail
      refine (canon_any x _).mono ?_
      rintro e w' ⟨rfl, rfl⟩
      go_wp2
      go_ret2
      exact ⟨by rw [HZ.out]; rfl, rfl⟩
end Go.Proofs.Ytaajfekolokaoaa
