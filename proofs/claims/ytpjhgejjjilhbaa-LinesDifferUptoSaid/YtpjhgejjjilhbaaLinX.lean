/- The walk of the laws' same, where it holds. -/
import Derived.Test.YtpjhgejjjilhbaaLinW
import Derived.Test.YtpjhgejjjilhbaaLinR
namespace Go.Proofs.Ytpjhgejjjilhbaa
open Go.RowKit

set_option maxRecDepth 100000 in
set_option maxHeartbeats 8000000 in
theorem hsame_yes (S T : Nat → Prop) (va vb : Value) (hs : List (HunkN (List UInt8))) (w : World) (ha : HunksC S w va hs) (hb : HunksC T w vb hs) (hl : hs.length ≤ 4194304) (hx : ∀ h ∈ hs, h.old.length ≤ 4194304 ∧ h.new.length ≤ 4194304) :
    Calls Try.prog 29 #[va, vb] w fun e w' => e = .returned (.bool true) ∧ ∃ n, w' = w.drewN n := by
  obtain ⟨aa, ac, rfl⟩ := ha.shape
  obtain ⟨ba, bc, rfl⟩ := hb.shape
  have HA := Lib.hid (fun n => ha.kept hunk_keeps (S' := S) (w' := w.drewN n) (fun k hk => ⟨hk, rfl⟩))
  have HB := Lib.hid (fun n => hb.kept hunk_keeps (S' := T) (w' := w.drewN n) (fun k hk => ⟨hk, rfl⟩))
  have HX := Lib.hid hx
  clear ha hb hx
  go_enter Try.func29, Try.ntmps29
  go_wp2_with fail
  go_loopw [5, 13] (fun _ i wr => ∃ k n : Nat, k ≤ hs.length ∧ i = .int .i64 k ∧ wr = w.drewN n) (fun _ i _ => hs.length - (intOf i).toNat)
  case atStart => exact ⟨0, 0, Nat.zero_le _, rfl, rfl⟩
  case round =>
    obtain ⟨k, n, hk, rfl, rfl⟩ := hrel
    by_cases hlt : k < hs.length
    · obtain ⟨h, hh⟩ : ∃ h, hs[k]? = some h := ⟨_, List.getElem?_eq_getElem hlt⟩
      obtain ⟨x1, x2⟩ := HX.out h (List.mem_of_getElem? hh)
      have HWX : Hid (∃ m, w.drewN n = w.drewN m) := Lib.hid ⟨n, rfl⟩
      have H6W := HA.out n
      have H7W := HB.out n
      generalize w.drewN n = wx at *
      obtain ⟨g6, o6, hg6, _, _, hc6, hcs6⟩ := hunk_at H6W (by omega)
      subst hg6
      obtain ⟨g7, o7, hg7, _, _, hc7, hcs7⟩ := hunk_at H7W (by omega)
      subst hg7
      obtain ⟨b1, q1, b2, q2, e0, e1, e2, r1, r2⟩ := hcs6 k _ hh
      obtain ⟨b3, q3, b4, q4, f0, f1, f2, r3, r4⟩ := hcs7 k _ hh
      obtain ⟨pl, old, new⟩ := h
      simp only at e0 e1 e2 f0 f1 f2 r1 r2 r3 r4 x1 x2
      have S1 := Lib.hid (same_all r1 r3 (by omega))
      have S2 := Lib.hid (same_all r2 r4 (by omega))
      clear hcs6 hcs7 r1 r2 r3 r4 hh H6W H7W
      go_wp2_with fail
      have S1' := Lib.hid (fun m => S1.out (wx.drewN m) (fun _ _ => rfl))
      have S2' := Lib.hid (fun m => S2.out (wx.drewN m) (fun _ _ => rfl))
      go_quiet ((go_at_call 20; first | (with_reducible exact Calls.quiet_of (S1'.out _)) | (with_reducible exact Calls.quiet_of (S2'.out _))))
      go_wp2_with fail
      go_roundw
      case rel =>
        obtain ⟨m, rfl⟩ := HWX.out
        exact ⟨k + 1, _, by omega, by go_num, World.drewN_drewN _ _ _⟩
      case measure => simp [intOf]; omega
    · go_wp2_with fail
      go_ret
      exact ⟨rfl, n, rfl⟩
end Go.Proofs.Ytpjhgejjjilhbaa
