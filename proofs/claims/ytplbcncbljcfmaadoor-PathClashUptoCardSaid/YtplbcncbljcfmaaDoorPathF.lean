/- The walks of Compare, Under, Parent. -/
import Derived.Test.YtplbcncbljcfmaaDoorPathE
namespace Go.Proofs.YtplbcncbljcfmaaDoor
open Go.RowKit Go.Lib

theorem cmpInt_any (x y : Int) (w : World) : Calls Tryd.prog 69 #[.int .i64 x, .int .i64 y] w fun e w' => e = .returned (.int .i64 (sgn x y)) ∧ w = w' :=
  (Tryd.cmp_Compare_int x y w).mono fun _ _ ⟨he, hw⟩ => ⟨by rw [he, compareInt_sgn], hw.symm⟩
set_option maxRecDepth 100000 in
set_option maxHeartbeats 1000000 in
theorem compare_any (a b : List UInt8) (w : World) (ha : a.length ≤ 140737488355328) (_ : b.length ≤ 140737488355328) : Calls Tryd.prog 37 #[.string ⟨a.toArray⟩, .string ⟨b.toArray⟩] w fun e w' => e = .returned (.int .i64 (cmpP a b)) ∧ ∃ n, w' = w.drewN n := by
  have HA := Lib.hid (alike_any a b w ha)
  obtain ⟨hle1, hle2⟩ := alikeN_le a b
  have HC : Hid (cmpP a b = if alikeN a b = a.length ∨ alikeN a b = b.length then sgn a.length b.length else sgn (rankI (a.getD (alikeN a b) 0)) (rankI (b.getD (alikeN a b) 0))) := Lib.hid (by rw [← cmpL_eq]; rfl)
  generalize alikeN a b = k at *
  generalize cmpP a b = r at *
  go_enter Tryd.func37, Tryd.ntmps37
  go_wp2_with fail
  refine HA.out.mono ?_
  rintro e w1 ⟨rfl, n, rfl⟩
  by_cases h1 : k = a.length
  · have HR : Hid (r = sgn a.length b.length) := Lib.hid (HC.out.trans (if_pos (Or.inl h1)))
    have g1 : ((k : Int) == (a.length : Int)) = true := by rw [h1]; simp
    clear h1
    go_wp2_with fail
    refine (cmpInt_any _ _ _).mono ?_
    rintro e w2 ⟨rfl, rfl⟩
    go_wp2_with fail
    go_ret
    exact ⟨by rw [HR.out]; rfl, n, rfl⟩
  · by_cases h2 : k = b.length
    · have HR : Hid (r = sgn a.length b.length) := Lib.hid (HC.out.trans (if_pos (Or.inr h2)))
      have g1 : ((k : Int) == (a.length : Int)) = false := by rw [beq_eq_false_iff_ne]; omega
      have g2 : ((k : Int) == (b.length : Int)) = true := by rw [h2]; simp
      clear h1 h2
      go_wp2_with fail
      refine (cmpInt_any _ _ _).mono ?_
      rintro e w2 ⟨rfl, rfl⟩
      go_wp2_with fail
      go_ret
      exact ⟨by rw [HR.out]; rfl, n, rfl⟩
    · have HR : Hid (r = sgn (rankI (a.getD k 0)) (rankI (b.getD k 0))) := Lib.hid (HC.out.trans (if_neg (by omega)))
      have g1 : ((k : Int) == (a.length : Int)) = false := by rw [beq_eq_false_iff_ne]; omega
      have g2 : ((k : Int) == (b.length : Int)) = false := by rw [beq_eq_false_iff_ne]; omega
      have hx := fun W => str_at W a k (by omega)
      have hy := fun W => str_at W b k (by omega)
      generalize a.getD k 0 = x at *
      generalize b.getD k 0 = y at *
      have HX := Lib.hid (rank_any x)
      have HY := Lib.hid (rank_any y)
      generalize rankI x = rx at *
      generalize rankI y = ry at *
      generalize x.toNat = xn at *
      generalize y.toNat = yn at *
      clear h1 h2
      go_wp2_with fail
      have HW : Hid (∃ m, w.drewN n = w.drewN m) := Lib.hid ⟨n, rfl⟩
      generalize w.drewN n = w1 at *
      go_quiet ((first | (go_at_call 70; first | exact quiet_l (HX.out _) | exact quiet_l (HY.out _)) | (go_at_call 69; exact quiet_l (cmpInt_any _ _ _))))
      go_wp2_with fail
      go_ret
      obtain ⟨m, rfl⟩ := HW.out
      exact ⟨by rw [HR.out]; rfl, m + nq, by rw [World.drewN_drewN]⟩
theorem prefix_app_iff (f p r : List UInt8) : (f ++ r).isPrefixOf p = (f.isPrefixOf p && r.isPrefixOf (p.drop f.length)) := by
  induction f generalizing p with
  | nil => simp
  | cons x xs ih =>
    cases p with
    | nil => simp [List.isPrefixOf]
    | cons y ys => simp only [List.cons_append, List.isPrefixOf, ih ys, List.length_cons, List.drop_succ_cons, Bool.and_assoc]
theorem underB_cons {f : List UInt8} (hf : f ≠ []) (p : List UInt8) : underB p f = (hasPrefix p f && hasPrefix (trimPrefix p f) [47]) := by
  unfold underB
  rw [if_neg hf, prefix_app_iff]
  unfold trimPrefix hasPrefix
  by_cases h : f.isPrefixOf p = true
  · rw [if_pos h]
  · have h' : f.isPrefixOf p = false := Bool.eq_false_iff.2 h
    rw [h']; rfl
set_option maxHeartbeats 1000000 in
theorem under_any (p f : List UInt8) (w : World) : Calls Tryd.prog 35 #[.string ⟨p.toArray⟩, .string ⟨f.toArray⟩] w fun e w' => e = .returned (.bool (underB p f)) ∧ w = w' := by
  by_cases hf : f = []
  · subst hf
    go_enter Tryd.func35, Tryd.ntmps35
    go_wp2_with fail
    go_ret
    refine ⟨?_, rfl⟩
    have e : underB p [] = !p.isEmpty := by unfold underB; rw [if_pos rfl]; cases p <;> simp
    rw [e]; rfl
  · have HU := Lib.hid (underB_cons hf p)
    have g1 : f.isEmpty = false := by cases f; exact absurd rfl hf; rfl
    have HC := Lib.hid (fun W => Tryd.strings_CutPrefix ⟨p.toArray⟩ ⟨f.toArray⟩ W)
    have HH := Lib.hid (fun W => Tryd.strings_HasPrefix ⟨(trimPrefix p f).toArray⟩ ⟨#[47]⟩ W)
    clear hf
    go_enter Tryd.func35, Tryd.ntmps35
    go_wp2_with fail
    refine (HC.out _).mono ?_
    rintro e w1 ⟨rfl, rfl⟩
    obtain ⟨r, hr⟩ : ∃ r, r = underB p f := ⟨_, rfl⟩
    have HRR := Lib.hid hr
    rw [← hr] at HU
    clear hr
    cases hb : hasPrefix p f
    · rw [hb] at HU
      clear hb
      go_wp2_with fail
      go_ret
      exact ⟨by rw [← HRR.out, HU.out]; rfl, rfl⟩
    · rw [hb] at HU
      clear hb
      go_wp2_with fail
      refine (HH.out _).mono ?_
      rintro e w2 ⟨rfl, rfl⟩
      go_wp2_with fail
      go_ret
      exact ⟨by rw [← HRR.out, HU.out]; rfl, rfl⟩
end Go.Proofs.YtplbcncbljcfmaaDoor
