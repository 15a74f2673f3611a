/- Walks of the reference's digits, bits and Parse. -/
import Derived.Test.YtgppadnbfggkcaaDoorY
import Derived.Test.YtgppadnbfggkcaaDoorAa
namespace Go.Proofs.YtgppadnbfggkcaaDoor
open Go.RowKit

def DigGives (r : Option Nat) (e : Ending) : Prop :=
  match r with
  | some n => e = .returned (.tuple #[.int .u64 n, .bool true])
  | none => e = .returned (.tuple #[.int .u64 0, .bool false])
theorem list_len (s : ByteArray) : s.data.toList.length = s.size := rfl
theorem drop_byte (s : ByteArray) (k : Nat) (h : k < s.size) : s.data.toList.drop k = s[k] :: s.data.toList.drop (k + 1) := by
  rw [List.drop_eq_getElem_cons (by rw [list_len]; exact h)]; rfl
set_option maxRecDepth 100000 in
set_option maxHeartbeats 400000 in
theorem rdig_empty (s : ByteArray) (most : Nat) (e1 : (s.toList == []) = true) (w : World) :
    Calls Tryd.prog 30 #[.string s, .int .i64 most] w fun e w' => DigGives none e ∧ w = w' := by
  go_enter Tryd.func30, Tryd.ntmps30
  go_wp2_with fail
  go_ret2
  exact ⟨rfl, rfl⟩
set_option maxRecDepth 100000 in
set_option maxHeartbeats 400000 in
theorem rdig_long (s : ByteArray) (most : Nat) (e1 : (s.toList == []) = false) (hl : most < s.size) (w : World) :
    Calls Tryd.prog 30 #[.string s, .int .i64 most] w fun e w' => DigGives none e ∧ w = w' := by
  go_enter Tryd.func30, Tryd.ntmps30
  go_wp2_with fail
  go_ret2
  exact ⟨rfl, rfl⟩
set_option maxRecDepth 100000 in
set_option maxHeartbeats 400000 in
theorem rdig_nought (s : ByteArray) (most : Nat) (e1 : (s.toList == []) = false) (hl : s.size ≤ most) (h1 : 1 < s.size) (h48 : ((s[0].toNat : Int) == 48) = true) (w : World) :
    Calls Tryd.prog 30 #[.string s, .int .i64 most] w fun e w' => DigGives none e ∧ w = w' := by
  go_enter Tryd.func30, Tryd.ntmps30
  go_wp2_with fail
  go_ret2
  exact ⟨rfl, rfl⟩
set_option maxRecDepth 100000 in
set_option maxHeartbeats 1000000 in
theorem rdig_run (s : ByteArray) (most : Nat) (e1 : (s.toList == []) = false) (hm : most ≤ 16) (hl : s.size ≤ most) (h1 : 1 < s.size) (h48 : ((s[0].toNat : Int) == 48) = false) (w : World) :
    Calls Tryd.prog 30 #[.string s, .int .i64 most] w fun e w' => DigGives (digScan s.data.toList 0) e ∧ w = w' := by
  go_enter Tryd.func30, Tryd.ntmps30
  go_wp2_with fail
  clear h48 e1
  go_loop [6, 7] (fun n i => ∃ (k a : Nat), k ≤ s.size ∧ n = .int .u64 a ∧ i = .int .i64 k ∧ a < 10 ^ k ∧ digScan (s.data.toList.drop k) a = digScan s.data.toList 0) (fun _ i => s.size - (intOf i).toNat)
  case atStart => exact ⟨0, 0, Nat.zero_le _, rfl, rfl, by simp, rfl⟩
  case round =>
    obtain ⟨k, a, hk, rfl, rfl, ha, hd⟩ := hrel
    have hp : 10 ^ k ≤ 10 ^ 16 := Nat.pow_le_pow_right (by omega) (by omega)
    have ha2 : a < 10000000000000000 := by omega
    have HA := Lib.hid ha
    have HD := Lib.hid hd
    clear hd ha hp
    by_cases hlt : k < s.size
    · have HS := Lib.hid (drop_byte s k hlt)
      have hp2 : 10 ^ k ≤ 10 ^ 15 := Nat.pow_le_pow_right (by omega) (by omega)
      have ha3 : a < 1000000000000000 := by have := HA.out; omega
      clear hp2
      by_cases hc1 : s[k].toNat < 48
      · go_wp2_with fail
        go_ret2
        refine ⟨?_, rfl⟩
        rw [← HD.out, HS.out, digScan, if_pos (Or.inl hc1)]; rfl
      · by_cases hc2 : 57 < s[k].toNat
        · go_wp2_with fail
          go_ret2
          refine ⟨?_, rfl⟩
          rw [← HD.out, HS.out, digScan, if_pos (Or.inr hc2)]; rfl
        · go_wp2_with fail
          refine ⟨⟨_, _, _, _, ⟨k + 1, by omega, a * 10 + (s[k].toNat - 48), rfl, rfl, ?_, ?_⟩, rfl, rfl, ?_, by go_num⟩, by simp [intOf]; omega⟩
          · rw [Nat.pow_succ]; have := HA.out; omega
          · rw [← HD.out, HS.out, digScan, if_neg (by omega)]
          · exact congrArg (Value.int IntKind.u64) (by omega)
    · go_wp2_with fail
      go_ret2
      refine ⟨?_, rfl⟩
      rw [← HD.out, List.drop_eq_nil_of_le (by rw [list_len]; omega)]; rfl
set_option maxRecDepth 100000 in
set_option maxHeartbeats 1000000 in
theorem rdig_one (s : ByteArray) (most : Nat) (e1 : (s.toList == []) = false) (hl : s.size ≤ most) (h0 : 0 < s.size) (h1 : s.size ≤ 1) (w : World) :
    Calls Tryd.prog 30 #[.string s, .int .i64 most] w fun e w' => DigGives (digScan s.data.toList 0) e ∧ w = w' := by
  go_enter Tryd.func30, Tryd.ntmps30
  go_wp2_with fail
  clear e1
  go_loop [6, 7] (fun n i => ∃ (k a : Nat), k ≤ s.size ∧ n = .int .u64 a ∧ i = .int .i64 k ∧ a < 10 ^ k ∧ digScan (s.data.toList.drop k) a = digScan s.data.toList 0) (fun _ i => s.size - (intOf i).toNat)
  case atStart => exact ⟨0, 0, Nat.zero_le _, rfl, rfl, by simp, rfl⟩
  case round =>
    obtain ⟨k, a, hk, rfl, rfl, ha, hd⟩ := hrel
    have hp : 10 ^ k ≤ 10 ^ 16 := Nat.pow_le_pow_right (by omega) (by omega)
    have ha2 : a < 10000000000000000 := by omega
    have HA := Lib.hid ha
    have HD := Lib.hid hd
    clear hd ha hp
    by_cases hlt : k < s.size
    · have HS := Lib.hid (drop_byte s k hlt)
      have hp2 : 10 ^ k ≤ 10 ^ 15 := Nat.pow_le_pow_right (by omega) (by omega)
      have ha3 : a < 1000000000000000 := by have := HA.out; omega
      clear hp2
      by_cases hc1 : s[k].toNat < 48
      · go_wp2_with fail
        go_ret2
        refine ⟨?_, rfl⟩
        rw [← HD.out, HS.out, digScan, if_pos (Or.inl hc1)]; rfl
      · by_cases hc2 : 57 < s[k].toNat
        · go_wp2_with fail
          go_ret2
          refine ⟨?_, rfl⟩
          rw [← HD.out, HS.out, digScan, if_pos (Or.inr hc2)]; rfl
        · go_wp2_with fail
          refine ⟨⟨k + 1, a * 10 + (s[k].toNat - 48), by omega, congrArg (Value.int IntKind.u64) (by omega), by go_num, ?_, ?_⟩, by simp [intOf]; omega⟩
          · rw [Nat.pow_succ]; have := HA.out; omega
          · rw [← HD.out, HS.out, digScan, if_neg (by omega)]
    · go_wp2_with fail
      go_ret2
      refine ⟨?_, rfl⟩
      rw [← HD.out, List.drop_eq_nil_of_le (by rw [list_len]; omega)]; rfl
theorem rdig_any (s : ByteArray) (most : Nat) (hm : most ≤ 16) (w : World) :
    Calls Tryd.prog 30 #[.string s, .int .i64 most] w fun e w' => DigGives (refDig s.data.toList most) e ∧ w = w' := by
  have hl := list_len s
  by_cases h0 : s.data.toList = []
  · have e1 : (s.toList == []) = true := by rw [Lib.toList_data, h0]; rfl
    have : refDig s.data.toList most = none := by unfold refDig; rw [if_pos (Or.inl h0)]
    rw [this]; exact rdig_empty s most e1 w
  have e1 : (s.toList == []) = false := by rw [beq_eq_false_iff_ne, Lib.toList_data]; exact h0
  have hp : 0 < s.size := by
    have : s.data.toList.length ≠ 0 := fun h => h0 (List.length_eq_zero_iff.1 h)
    omega
  by_cases h1 : most < s.size
  · have : refDig s.data.toList most = none := by unfold refDig; rw [if_pos (Or.inr (Or.inl (by omega)))]
    rw [this]; exact rdig_long s most e1 h1 w
  have hd := drop_byte s 0 hp
  rw [List.drop_zero] at hd
  by_cases h2 : 1 < s.size
  · by_cases h3 : s[0] = 48
    · have : refDig s.data.toList most = none := by unfold refDig; rw [if_pos (Or.inr (Or.inr ⟨by omega, by rw [hd, h3]; rfl⟩))]
      rw [this]; exact rdig_nought s most e1 (by omega) h2 (by rw [h3]; rfl) w
    · have : refDig s.data.toList most = digScan s.data.toList 0 := by
        unfold refDig; rw [if_neg]
        rintro (h | h | ⟨_, h⟩)
        · exact h0 h
        · omega
        · rw [hd] at h; injection h with h; exact h3 h
      rw [this]
      refine rdig_run s most e1 hm (by omega) h2 ?_ w
      rw [beq_eq_false_iff_ne]; intro h
      exact h3 (UInt8.toNat.inj (by rw [show (48 : UInt8).toNat = 48 from rfl]; omega))
  · have : refDig s.data.toList most = digScan s.data.toList 0 := by
      unfold refDig; rw [if_neg]
      rintro (h | h | ⟨h, _⟩)
      · exact h0 h
      · omega
      · omega
    rw [this]; exact rdig_one s most e1 (by omega) hp (by omega) w
end Go.Proofs.YtgppadnbfggkcaaDoor
