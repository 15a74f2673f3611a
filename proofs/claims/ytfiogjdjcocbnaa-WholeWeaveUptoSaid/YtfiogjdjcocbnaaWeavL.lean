/- The walks of the laws' small, of the reference's Kind and, where it holds, Alike. -/
import Derived.Test.YtfiogjdjcocbnaaWeavJ
import Derived.Test.YtfiogjdjcocbnaaLinR
namespace Go.Proofs.Ytfiogjdjcocbnaa
open Go.RowKit

set_option maxRecDepth 100000 in
set_option maxHeartbeats 4000000 in
theorem small_any (aa ba ca : Option Addr) (an ac bn bc cn cc : Nat) (w : World) (ha : an ≤ 1099511627776) (hb : bn ≤ 1099511627776) (hc : cn ≤ 1099511627776) :
    Calls Try.prog 35 #[.slice aa an ac, .slice ba bn bc, .slice ca cn cc] w fun e w' => e = .returned (.bool (decide (an ≤ 200) && decide (bn ≤ 200) && decide (cn ≤ 200))) ∧ w' = w := by
  by_cases h1 : an ≤ 200
  · by_cases h2 : bn ≤ 200
    · by_cases h3 : cn ≤ 200
      all_goals
        go_enter Try.func35, Try.ntmps35
        go_wp2_with fail
        go_ret
        exact ⟨by simp [h1, h2, h3]; omega, rfl⟩
    · go_enter Try.func35, Try.ntmps35
      go_wp2_with fail
      go_ret
      exact ⟨by simp, rfl⟩
  · go_enter Try.func35, Try.ntmps35
    go_wp2_with fail
    go_ret
    exact ⟨by simp, rfl⟩
set_option maxRecDepth 100000 in
set_option maxHeartbeats 4000000 in
theorem rkind_any (S T R : Nat → Prop) (va vb vc : Value) (a b c : List (List UInt8)) (w : World) (ha : StrsC S w va a) (hb : StrsC T w vb b) (hc : StrsC R w vc c) (hal : a.length ≤ 4194304) (hbl : b.length ≤ 4194304) (hcl : c.length ≤ 4194304) :
    Calls Try.prog 42 #[va, vb, vc] w fun e w' => e = .returned (.int .i64 (kindN a b c)) ∧ ∃ n, w' = w.drewN n := by
  have HAB := Lib.hid (fun (n : Nat) => same_any S T va vb a b (w.drewN n) (ha.kept (fun k hk => ⟨hk, rfl⟩)) (hb.kept (fun k hk => ⟨hk, rfl⟩)) hal hbl)
  have HAC := Lib.hid (fun (n : Nat) => same_any S R va vc a c (w.drewN n) (ha.kept (fun k hk => ⟨hk, rfl⟩)) (hc.kept (fun k hk => ⟨hk, rfl⟩)) hal hcl)
  have HBC := Lib.hid (fun (n : Nat) => same_any T R vb vc b c (w.drewN n) (hb.kept (fun k hk => ⟨hk, rfl⟩)) (hc.kept (fun k hk => ⟨hk, rfl⟩)) hbl hcl)
  obtain ⟨aa, ac, rfl⟩ := ha.shape
  obtain ⟨ba, bc, rfl⟩ := hb.shape
  obtain ⟨ca, cc, rfl⟩ := hc.shape
  obtain ⟨kk, hkk⟩ : ∃ kk, kindN a b c = kk := ⟨_, rfl⟩
  rw [hkk]
  have HK : Hid ((if decide (a = b) && decide (a = c) then 0 else if decide (a = c) then 1 else if decide (a = b) then 2 else if decide (b = c) then 3 else 4) = kk) := Lib.hid (by rw [← hkk]; unfold kindN; simp)
  generalize decide (a = b) = q1 at *
  generalize decide (a = c) = q2 at *
  generalize decide (b = c) = q3 at *
  have H0 : Hid (∃ n, w = w.drewN n) := Lib.hid ⟨0, rfl⟩
  have HAB' : Hid (∀ W : World, (∃ n, W = w.drewN n) → Calls Try.prog 20 #[.slice aa a.length ac, .slice ba b.length bc] W fun e w' => e = .returned (.bool q1) ∧ ∃ n, w' = W.drewN n) := Lib.hid (by rintro W ⟨n, rfl⟩; exact HAB.out n)
  have HAC' : Hid (∀ W : World, (∃ n, W = w.drewN n) → Calls Try.prog 20 #[.slice aa a.length ac, .slice ca c.length cc] W fun e w' => e = .returned (.bool q2) ∧ ∃ n, w' = W.drewN n) := Lib.hid (by rintro W ⟨n, rfl⟩; exact HAC.out n)
  have HBC' : Hid (∀ W : World, (∃ n, W = w.drewN n) → Calls Try.prog 20 #[.slice ba b.length bc, .slice ca c.length cc] W fun e w' => e = .returned (.bool q3) ∧ ∃ n, w' = W.drewN n) := Lib.hid (by rintro W ⟨n, rfl⟩; exact HBC.out n)
  have MORE : Hid (∀ W m, (∃ n, W = w.drewN n) → ∃ n, W.drewN m = w.drewN n) := Lib.hid (by rintro W m ⟨n, rfl⟩; exact ⟨_, World.drewN_drewN _ _ _⟩)
  clear ha hb hc hkk HAB HAC HBC
  go_enter Try.func42, Try.ntmps42
  go_wp2_with fail
  refine (HAB'.out w H0.out).mono ?_
  rintro e w1 ⟨rfl, n1, rfl⟩
  have H1 := Lib.hid (MORE.out _ n1 H0.out)
  generalize w.drewN n1 = w1 at *
  cases q1
  · go_wp2_with fail
    refine (HAC'.out w1 H1.out).mono ?_
    rintro e w2 ⟨rfl, n2, rfl⟩
    have H2 := Lib.hid (MORE.out _ n2 H1.out)
    generalize w1.drewN n2 = w2 at *
    cases q2
    · go_wp2_with fail
      refine (HAB'.out w2 H2.out).mono ?_
      rintro e w3 ⟨rfl, n3, rfl⟩
      have H3 := Lib.hid (MORE.out _ n3 H2.out)
      generalize w2.drewN n3 = w3 at *
      go_wp2_with fail
      refine (HBC'.out w3 H3.out).mono ?_
      rintro e w4 ⟨rfl, n4, rfl⟩
      have H4 := Lib.hid (MORE.out _ n4 H3.out)
      generalize w3.drewN n4 = w4 at *
      cases q3
      all_goals
        go_wp2_with fail
        go_ret
        exact ⟨by rw [← HK.out]; rfl, H4.out⟩
    · go_wp2_with fail
      go_ret
      exact ⟨by rw [← HK.out]; rfl, H2.out⟩
  · go_wp2_with fail
    refine (HAC'.out w1 H1.out).mono ?_
    rintro e w2 ⟨rfl, n2, rfl⟩
    have H2 := Lib.hid (MORE.out _ n2 H1.out)
    generalize w1.drewN n2 = w2 at *
    cases q2
    · go_wp2_with fail
      refine (HAC'.out w2 H2.out).mono ?_
      rintro e w3 ⟨rfl, n3, rfl⟩
      have H3 := Lib.hid (MORE.out _ n3 H2.out)
      generalize w2.drewN n3 = w3 at *
      go_wp2_with fail
      refine (HAB'.out w3 H3.out).mono ?_
      rintro e w4 ⟨rfl, n4, rfl⟩
      have H4 := Lib.hid (MORE.out _ n4 H3.out)
      generalize w3.drewN n4 = w4 at *
      go_wp2_with fail
      go_ret
      exact ⟨by rw [← HK.out]; rfl, H4.out⟩
    · go_wp2_with fail
      go_ret
      exact ⟨by rw [← HK.out]; rfl, H2.out⟩
set_option maxRecDepth 100000 in
set_option maxHeartbeats 8000000 in
theorem alike_yes (S T : Nat → Prop) (va vb : Value) (ps : List (PartN (List UInt8))) (w : World) (ha : PartsC S w va ps) (hb : PartsC T w vb ps) (hl : ps.length ≤ 4194304) (hx : ∀ p ∈ ps, p.base.length ≤ 4194304 ∧ p.ours.length ≤ 4194304 ∧ p.theirs.length ≤ 4194304) :
    Calls Try.prog 40 #[va, vb] w fun e w' => e = .returned (.bool true) ∧ ∃ n, w' = w.drewN n := by
  obtain ⟨aa, ac, rfl⟩ := ha.shape
  obtain ⟨ba, bc, rfl⟩ := hb.shape
  have HA := Lib.hid (fun n => ha.kept part_keeps (S' := S) (w' := w.drewN n) (fun k hk => ⟨hk, rfl⟩))
  have HB := Lib.hid (fun n => hb.kept part_keeps (S' := T) (w' := w.drewN n) (fun k hk => ⟨hk, rfl⟩))
  have HX := Lib.hid hx
  clear ha hb hx
  go_enter Try.func40, Try.ntmps40
  go_wp2_with fail
  go_loopw [5] (fun i wr => ∃ k n : Nat, k ≤ ps.length ∧ i = .int .i64 k ∧ wr = w.drewN n) (fun i _ => ps.length - (intOf i).toNat)
  case atStart => exact ⟨0, 0, Nat.zero_le _, rfl, rfl⟩
  case round =>
    obtain ⟨k, n, hk, rfl, rfl⟩ := hrel
    by_cases hlt : k < ps.length
    · obtain ⟨p, hh⟩ : ∃ p, ps[k]? = some p := ⟨_, List.getElem?_eq_getElem hlt⟩
      obtain ⟨x1, x2, x3⟩ := HX.out p (List.mem_of_getElem? hh)
      have HWX : Hid (∃ m, w.drewN n = w.drewN m) := Lib.hid ⟨n, rfl⟩
      have H6W := HA.out n
      have H7W := HB.out n
      generalize w.drewN n = wx at *
      obtain ⟨g6, o6, hg6, _, _, hc6, hcs6⟩ := part_at H6W (by omega)
      subst hg6
      obtain ⟨g7, o7, hg7, _, _, hc7, hcs7⟩ := part_at H7W (by omega)
      subst hg7
      obtain ⟨b1, q1, b2, q2, b3, q3, e0, e1, e2, e3, r1, r2, r3⟩ := hcs6 k _ hh
      obtain ⟨b4, q4, b5, q5, b6, q6, f0, f1, f2, f3, r4, r5, r6⟩ := hcs7 k _ hh
      obtain ⟨kd, lb, lo, lt⟩ := p
      simp only at e0 e1 e2 e3 f0 f1 f2 f3 r1 r2 r3 r4 r5 r6 x1 x2 x3
      have S1 := Lib.hid (same_all r1 r4 (by omega))
      have S2 := Lib.hid (same_all r2 r5 (by omega))
      have S3 := Lib.hid (same_all r3 r6 (by omega))
      clear hcs6 hcs7 r1 r2 r3 r4 r5 r6 hh H6W H7W
      go_wp2_with fail
      have S1' := Lib.hid (fun m => S1.out (wx.drewN m) (fun _ _ => rfl))
      have S2' := Lib.hid (fun m => S2.out (wx.drewN m) (fun _ _ => rfl))
      have S3' := Lib.hid (fun m => S3.out (wx.drewN m) (fun _ _ => rfl))
      go_quiet ((go_at_call 20; first | (with_reducible exact Calls.quiet_of (S1'.out _)) | (with_reducible exact Calls.quiet_of (S2'.out _)) | (with_reducible exact Calls.quiet_of (S3'.out _))))
      go_wp2_with fail
      go_roundw
      case rel =>
        obtain ⟨m, rfl⟩ := HWX.out
        exact ⟨k + 1, _, by omega, by go_num, World.drewN_drewN _ _ _⟩
      case measure => simp [intOf]; omega
    · go_wp2_with fail
      go_ret
      exact ⟨rfl, n, rfl⟩
end Go.Proofs.Ytfiogjdjcocbnaa
