/- The walks of Compare, Under, Parent. -/
import Derived.Test.YthigepjddfdbmaaDoorPathE
namespace Go.Proofs.YthigepjddfdbmaaDoor
open Go.RowKit Go.Lib

theorem prefix_app_iff (f p r : List UInt8) : (f ++ r).isPrefixOf p = (f.isPrefixOf p && r.isPrefixOf (p.drop f.length)) := by
  induction f generalizing p with
  | nil => simp
  | cons x xs ih =>
    cases p with
    | nil => simp [List.isPrefixOf]
    | cons y ys => simp only [List.cons_append, List.isPrefixOf, ih ys, List.length_cons, List.drop_succ_cons, Bool.and_assoc]
theorem underB_cons {f : List UInt8} (hf : f ≠ []) (p : List UInt8) : underB p f = (hasPrefix p f && hasPrefix (trimPrefix p f) [47]) := by
  unfold underB
  rw [if_neg hf, prefix_app_iff]
  unfold trimPrefix hasPrefix
  by_cases h : f.isPrefixOf p = true
  · rw [if_pos h]
  · have h' : f.isPrefixOf p = false := Bool.eq_false_iff.2 h
    rw [h']; rfl
set_option maxHeartbeats 1000000 in
theorem under_any (p f : List UInt8) (w : World) : Calls Tryd.prog 20 #[.string ⟨p.toArray⟩, .string ⟨f.toArray⟩] w fun e w' => e = .returned (.bool (underB p f)) ∧ w = w' := by
  by_cases hf : f = []
  · subst hf
    go_enter Tryd.func20, Tryd.ntmps20
    go_wp2_with fail
    go_ret
    refine ⟨?_, rfl⟩
    have e : underB p [] = !p.isEmpty := by unfold underB; rw [if_pos rfl]; cases p <;> simp
    rw [e]; rfl
  · have HU := Lib.hid (underB_cons hf p)
    have g1 : f.isEmpty = false := by cases f; exact absurd rfl hf; rfl
    have HC := Lib.hid (fun W => Tryd.strings_CutPrefix ⟨p.toArray⟩ ⟨f.toArray⟩ W)
    have HH := Lib.hid (fun W => Tryd.strings_HasPrefix ⟨(trimPrefix p f).toArray⟩ ⟨#[47]⟩ W)
    clear hf
    go_enter Tryd.func20, Tryd.ntmps20
    go_wp2_with fail
    refine (HC.out _).mono ?_
    rintro e w1 ⟨rfl, rfl⟩
    obtain ⟨r, hr⟩ : ∃ r, r = underB p f := ⟨_, rfl⟩
    have HRR := Lib.hid hr
    rw [← hr] at HU
    clear hr
    cases hb : hasPrefix p f
    · rw [hb] at HU
      clear hb
      go_wp2_with fail
      go_ret
      exact ⟨by rw [← HRR.out, HU.out]; rfl, rfl⟩
    · rw [hb] at HU
      clear hb
      go_wp2_with fail
      refine (HH.out _).mono ?_
      rintro e w2 ⟨rfl, rfl⟩
      go_wp2_with fail
      go_ret
      exact ⟨by rw [← HRR.out, HU.out]; rfl, rfl⟩
end Go.Proofs.YthigepjddfdbmaaDoor
