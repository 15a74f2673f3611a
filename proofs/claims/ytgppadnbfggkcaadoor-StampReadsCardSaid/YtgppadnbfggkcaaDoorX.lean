/- Walks of the reference's Decimal and Print. -/
import Derived.Test.YtgppadnbfggkcaaDoorQ
import Derived.Test.YtgppadnbfggkcaaDoorV
namespace Go.Proofs.YtgppadnbfggkcaaDoor
open Go.RowKit

theorem dig_piece (d : Nat) (h : d < 10) : (⟨#[48, 49, 50, 51, 52, 53, 54, 55, 56, 57]⟩ : ByteArray).extract d (d + 1) = ⟨#[UInt8.ofNat (48 + d)]⟩ := by
  have : ∀ d : Fin 10, (⟨#[48, 49, 50, 51, 52, 53, 54, 55, 56, 57]⟩ : ByteArray).extract d.val (d.val + 1) = ⟨#[UInt8.ofNat (48 + d.val)]⟩ := by decide +kernel
  exact this ⟨d, h⟩
theorem dec_big (u : Nat) (h : ¬ u < 10) : Lib.decDigits u = Lib.decDigits (u / 10) ++ [UInt8.ofNat (48 + u % 10)] := by rw [Lib.decDigits, dif_neg h]
set_option maxRecDepth 100000 in
set_option maxHeartbeats 1000000 in
theorem dec_any (n : Nat) (hn : n < 18446744073709551616) (w : World) :
    Calls Tryd.prog 33 #[.int .u64 n] w fun e w' => e = .returned (.string ⟨(Lib.decDigits n).toArray⟩) ∧ w = w' := by
  have hl := dec_len n hn
  have HN := Lib.hid hn
  clear hn
  go_enter Tryd.func33, Tryd.ntmps33
  go_wp2_with fail
  go_loop [0, 3] (fun i o => ∃ (m : Nat) (out : List UInt8), m ≤ n ∧ i = .int .u64 m ∧ o = .string ⟨out.toArray⟩ ∧ Lib.decDigits n = Lib.decDigits m ++ out) (fun i _ => (intOf i).toNat)
  case atStart => exact ⟨n, [], Nat.le_refl _, rfl, rfl, by simp⟩
  case round =>
    obtain ⟨m, out, hm, rfl, rfl, hd⟩ := hrel
    have hol : out.length ≤ 20 := by rw [hd] at hl; simp at hl; omega
    have HD := Lib.hid hd
    clear hd
    by_cases h9 : 9 < m
    · go_wp2_with fail
      have hw : IntKind.u64.wrap ((m : Int) / 10) = ((m / 10 : Nat) : Int) := by have := HN.out; rw [IntKind.wrap_u64]; omega
      rw [hw]
      refine ⟨⟨m / 10, UInt8.ofNat (48 + m % 10) :: out, by omega, rfl, ?_, ?_⟩, by simp [intOf]; omega⟩
      · rw [dig_piece (m % 10) (by omega)]
        exact congrArg Value.string (ByteArray.mk_append_mk [UInt8.ofNat (48 + m % 10)] out)
      · rw [HD.out, dec_big m (by omega)]; simp
    · go_wp2_with fail
      go_ret
      refine ⟨ret_str ?_, rfl⟩
      have e : (⟨#[48, 49, 50, 51, 52, 53, 54, 55, 56, 57]⟩ : ByteArray).extract m (m + 1) ++ ⟨out.toArray⟩ = ⟨(Lib.decDigits n).toArray⟩ := by
        rw [dig_piece m (by omega), HD.out, Lib.decDigits_one (by omega)]
        exact ByteArray.mk_append_mk [UInt8.ofNat (48 + m)] out
      rw [← e]
end Go.Proofs.YtgppadnbfggkcaaDoor
