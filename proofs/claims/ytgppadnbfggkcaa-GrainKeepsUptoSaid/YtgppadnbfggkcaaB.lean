/- The walk of writeHead. -/
import Derived.Test.YtgppadnbfggkcaaA
namespace Go.Proofs.Ytgppadnbfggkcaa
open Go.RowKit

theorem src_one (w : World) (x : Int) : Src Try.prog 1 23 (.slice (some ⟨w.heap.size, 0, none⟩) 1 1) 1 [.int .u8 x] (w.alloc (.cells #[.int .u8 x] 5)) :=
  Src.ofSlice _ Try.underlying23 _ 1 1 _ rfl (news_one _ _ _) (one_cell8 _)
set_option maxRecDepth 100000 in
set_option maxHeartbeats 2000000 in
theorem writeHead_any (B k n : Nat) (v : Value) (l : List UInt8) (w : World) (hk : k < 4) (hn : n < 18446744073709551616) (hl : l.length ≤ 4194304) (hB : B ≤ w.heap.size) (hO : Own w B v l) :
    Calls Try.prog 29 #[v, .int .u8 k, .int .u64 n] w fun e w' => ∃ v', e = .returned v' ∧ Own w' B v' (l ++ headB k n) ∧ Grew w w' v v' := by
  obtain ⟨i0, hi, hz0, hz1, hz2⟩ := info_parts Try.info5
  have HL := Lib.hid (headB_len k n hn)
  have HN := Lib.hid hn
  have HO := Lib.hid hO
  clear hn hO
  go_enter Try.func29, Try.ntmps29
  go_wp2_with fail
  go_loopw [0, 2, 7] (fun vo m p wr => ∃ (v' : Value) (l' : List UInt8) (part m' : Nat), vo = v' ∧ m = .int .u64 m' ∧ p = .int .u8 part ∧ part < 128 ∧ m' ≤ n ∧ l' ++ headL part m' = l ++ headB k n ∧ Own wr B v' l' ∧ Grew w wr v v')
    (fun _ m _ _ => (intOf m).toNat)
  case atStart =>
    refine ⟨v, l, n % 32 * 4 + k, n / 32, rfl, ?_, ?_, by omega, by omega, rfl, HO.out, Grew.refl _ _⟩
    · exact congrArg (Value.int .u64) (by have := HN.out; rw [IntKind.wrap_u64]; omega)
    · exact congrArg (Value.int .u8) (by omega)
  case round =>
    obtain ⟨v', l', part, m, rfl, rfl, rfl, hp, hm, hh, hown, hbr⟩ := hrel
    have hsz := hbr.size
    have hl' : l'.length ≤ 4194400 := by
      have e := congrArg List.length hh
      rw [List.length_append, List.length_append] at e
      have := HL.out
      omega
    have HR := Lib.hid hbr
    have HH := Lib.hid hh
    clear hbr hh
    by_cases hm0 : m = 0
    · subst hm0
      go_wp2_with (at_builtin; refine wpList_own_src _ rfl _ _ 23 23 rfl B 5 i0 (.int .u8 0) 1 1 Try.underlying23 hi hz0 hz1 hz2 rfl (by decide) _ _ _ rfl (hown.alloc _) _ 1 [.int .u8 part] rfl (src_one _ _) ?c3 ?c4 ?c5 ?_)
      case c3 => unfold maxLen; omega
      case c4 => omega
      case c5 => simp; omega
      intro v' w2 hown' hgrow
      have HG := Lib.hid (HR.out.trans ((Grew.alloc _ _ _).trans hgrow))
      have HV := Lib.hid (own_push part (by omega) rfl hown')
      clear hown' hown hgrow
      go_wp2_with fail
      go_ret
      refine ⟨v', rfl, ?_, HG.out⟩
      have e : headL part 0 = [UInt8.ofNat part] := by rw [headL, if_pos rfl]
      rw [← HH.out, e]; exact HV.out
    · have hm1 : 0 < m := by omega
      go_wp2_with (at_builtin; refine wpList_own_src _ rfl _ _ 23 23 rfl B 5 i0 (.int .u8 0) 1 1 Try.underlying23 hi hz0 hz1 hz2 rfl (by decide) _ _ _ rfl (hown.alloc _) _ 1 [.int .u8 ((part : Int) + 128)] rfl (src_one _ _) ?c3 ?c4 ?c5 ?_)
      case c3 => unfold maxLen; omega
      case c4 => omega
      case c5 => simp; omega
      intro v' w2 hown' hgrow
      have HG := Lib.hid (HR.out.trans ((Grew.alloc _ _ _).trans hgrow))
      have HV := Lib.hid (own_push (part + 128) (by omega) (by omega) hown')
      clear hown' hown hgrow
      go_wp2_with fail
      have hw : IntKind.u64.wrap ((m : Int) / 128) = ((m / 128 : Nat) : Int) := by have := HN.out; rw [IntKind.wrap_u64]; omega
      rw [hw]
      refine ⟨⟨v', _, m % 128, m / 128, rfl, rfl, rfl, by omega, by omega, ?_, HV.out, HG.out⟩, by simp [intOf]; omega⟩
      have e : headL part m = UInt8.ofNat (part + 128) :: headL (m % 128) (m / 128) := by rw [headL, if_neg hm0]
      rw [← HH.out, e, List.append_assoc]; rfl
end Go.Proofs.Ytgppadnbfggkcaa
