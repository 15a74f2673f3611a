/- The reference's Head and Bits. -/
import Derived.Test.YtgppadnbfggkcaaC
namespace Go.Proofs.Ytgppadnbfggkcaa
open Go.RowKit

theorem byte_string (w : World) (x : Int) (h0 : 0 ≤ x) (h1 : x < 256) : (convert 23 9 (.slice (some ⟨w.heap.size, 0, none⟩) 1 1)).run Try.prog (w.alloc (.cells #[.int .u8 x] 5)) = .ok (.string ⟨#[UInt8.ofNat x.toNat]⟩) (w.alloc (.cells #[.int .u8 x] 5)) := by
  have e : ((UInt8.ofNat x.toNat).toNat : Int) = x := by simp; omega
  have h := run_convert_bytes_back (P := Try.prog) (w.alloc (.cells #[.int .u8 x] 5)) 23 9 5 ⟨w.heap.size, 0, none⟩ 1 [UInt8.ofNat x.toNat] Try.underlying23 Try.underlying5 Try.underlying9 (fun j hj => by
    have : j = 0 := by simpa using hj
    subst this
    have := news_one w (.int .u8 x) 5 0 (.int .u8 x) rfl
    rw [this]
    simp only [List.getElem_cons_zero]
    rw [e])
  exact h
theorem mk_append (l r : List UInt8) : (⟨l.toArray⟩ : ByteArray) ++ ⟨r.toArray⟩ = ⟨(l ++ r).toArray⟩ := ByteArray.mk_append_mk l r
set_option maxRecDepth 100000 in
set_option maxHeartbeats 1000000 in
theorem rhead_any (k n : Nat) (w : World) (hk : k < 4) (hn : n < 18446744073709551616) :
    Calls Try.prog 32 #[.int .i64 k, .int .u64 n] w fun e w' => e = .returned (.string ⟨(headB k n).toArray⟩) ∧ Below w.heap.size w w' := by
  have HL := Lib.hid (headB_len k n hn)
  have HN := Lib.hid hn
  clear hn
  go_enter Try.func32, Try.ntmps32
  go_wp2_with fail
  go_loopw [1, 5, 6] (fun m p s wr => ∃ (o : List UInt8) (part m' : Nat), m = .int .u64 m' ∧ p = .int .i64 part ∧ s = .string ⟨o.toArray⟩ ∧ part < 128 ∧ m' ≤ n ∧ o ++ headL part m' = headB k n ∧ Below w.heap.size w wr)
    (fun m _ _ _ => (intOf m).toNat)
  case atStart =>
    refine ⟨[], n % 32 * 4 + k, n / 32, ?_, ?_, rfl, by omega, by omega, rfl, Below.refl _ _⟩
    · exact congrArg (Value.int .u64) (by have := HN.out; rw [IntKind.wrap_u64]; omega)
    · go_num
  case round =>
    obtain ⟨o, part, m, rfl, rfl, rfl, hp, hm, hh, hbr⟩ := hrel
    have ho : o.length ≤ 11 := by
      have e := congrArg List.length hh
      rw [List.length_append] at e
      have := HL.out
      omega
    have hsz := hbr.size
    have HR := Lib.hid hbr
    have HH := Lib.hid hh
    clear hbr hh
    by_cases hm0 : m = 0
    · subst hm0
      have hcv := byte_string wr (part : Int) (by omega) (by omega)
      go_wp2_with fail
      go_ret
      have e : headL part 0 = [UInt8.ofNat part] := by rw [headL, if_pos rfl]
      have hh := HH.out
      rw [e] at hh
      refine ⟨?_, HR.out.alloc (by omega) _⟩
      rw [← hh, ← mk_append]; rfl
    · have hm1 : 0 < m := by omega
      have hcv := byte_string wr ((part : Int) + 128) (by omega) (by omega)
      go_wp2_with fail
      have hw : IntKind.u64.wrap ((m : Int) / 128) = ((m / 128 : Nat) : Int) := by have := HN.out; rw [IntKind.wrap_u64]; omega
      rw [hw]
      refine ⟨⟨o ++ [UInt8.ofNat (part + 128)], m % 128, m / 128, rfl, rfl, ?_, by omega, by omega, ?_, HR.out.alloc (by omega) _⟩, by simp [intOf]; omega⟩
      · have e : (UInt8.ofNat part + 128 : UInt8) = UInt8.ofNat (part + 128) := UInt8.toNat.inj (by simp [UInt8.toNat_add])
        rw [e, ← mk_append]
      · have e : headL part m = UInt8.ofNat (part + 128) :: headL (m % 128) (m / 128) := by rw [headL, if_neg hm0]
        rw [← HH.out, e, List.append_assoc]; rfl
set_option maxHeartbeats 400000 in
theorem rbits_any (b : Nat) (w : World) :
    Calls Try.prog 33 #[.float .f64 b] w fun e w' => e = .returned (.int .u64 (canonB b)) ∧ w = w' := by
  have h19 := fb19 b
  cases h : nanB b with
  | true =>
    have e : canonB b = 9221120237041090560 := by unfold canonB; rw [if_pos h]
    rw [e]
    have hn : (FloatKind.f64.format.order b b != some .eq) = true := h
    clear e h
    go_enter Try.func33, Try.ntmps33
    go_wp2
    go_ret
    exact ⟨rfl, rfl⟩
  | false =>
    have e : canonB b = b := by unfold canonB; rw [if_neg (by rw [h]; decide)]
    rw [e]
    have hn : (FloatKind.f64.format.order b b != some .eq) = false := h
    clear e h
    go_enter Try.func33, Try.ntmps33
    go_wp2
    go_ret
    exact ⟨rfl, rfl⟩
end Go.Proofs.Ytgppadnbfggkcaa
