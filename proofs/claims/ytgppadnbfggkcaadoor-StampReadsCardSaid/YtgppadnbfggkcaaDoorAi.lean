/- The reference's Parse. -/
import Derived.Test.YtgppadnbfggkcaaDoorAe
import Derived.Test.YtgppadnbfggkcaaDoorAf
import Derived.Test.YtgppadnbfggkcaaDoorAg
import Derived.Test.YtgppadnbfggkcaaDoorAh
import Derived.Deep.Cut
namespace Go.Proofs.YtgppadnbfggkcaaDoor
open Go.RowKit

theorem rparse_any (s : ByteArray) (hs : s.size ≤ 281474976710656) (w : World) :
    Calls Tryd.prog 18 #[.string s] w fun e w' => RefGives (refP s.data.toList) e ∧ w = w' := by
  by_cases h0 : s.data.toList = []
  · have e : s = ⟨#[]⟩ := by
      have : s = ⟨s.data.toList.toArray⟩ := by simp
      rw [this, h0]
    rw [h0, e]; exact rparse_empty w
  by_cases h1 : s.data.toList = [110, 97, 110]
  · have e : s = ⟨#[110, 97, 110]⟩ := by
      have : s = ⟨s.data.toList.toArray⟩ := by simp
      rw [this, h1]
    rw [h1, e]; exact rparse_nan w
  have e0 : (s.toList == []) = false := by rw [beq_eq_false_iff_ne, Lib.toList_data]; exact h0
  have e1 : (s.toList == [110, 97, 110]) = false := by rw [beq_eq_false_iff_ne, Lib.toList_data]; exact h1
  have hz : 0 < s.size := by
    have : s.data.toList.length ≠ 0 := fun h => h0 (List.length_eq_zero_iff.1 h)
    rw [list_len] at this; omega
  by_cases h45 : s.data.toList.head? = some 45
  · obtain ⟨_, _, e45, ht⟩ := rest_minus rfl h45
    have hP : refP s.data.toList = (refMag s.data.toList.tail).map fun r => 9223372036854775808 + r := by unfold refP; rw [if_neg h1, if_pos h45]
    have hN : (s.extract 1 s.size).data.toList = s.data.toList.tail := ht
    rw [hP, ← hN]
    by_cases h2 : (s.extract 1 s.size).data.toList = [105, 110, 102]
    · have e : (refMag (s.extract 1 s.size).data.toList).map (fun r => 9223372036854775808 + r) = some 18442240474082181120 := by rw [h2]; rfl
      rw [e]; exact rparse_inf_S s hz e0 e45 e1 (by rw [Lib.toList_data, h2]; rfl) w
    have e2 : ((s.extract 1 s.size).toList == [105, 110, 102]) = false := by rw [beq_eq_false_iff_ne, Lib.toList_data]; exact h2
    by_cases h3 : (s.extract 1 s.size).data.toList = [48]
    · have e : (refMag (s.extract 1 s.size).data.toList).map (fun r => 9223372036854775808 + r) = some 9223372036854775808 := by rw [h3]; rfl
      rw [e]; exact rparse_nought_S s hz e0 e45 e1 e2 (by rw [Lib.toList_data, h3]; rfl) w
    have e3 : ((s.extract 1 s.size).toList == [48]) = false := by rw [beq_eq_false_iff_ne, Lib.toList_data]; exact h3
    have hM : refMag (s.extract 1 s.size).data.toList = (cutP (s.extract 1 s.size).data.toList).bind fun x => refMid x.1 x.2 := by unfold refMag; rw [if_neg h2, if_neg h3]
    rw [hM]
    cases hc : cutP (s.extract 1 s.size).data.toList with
    | none =>
      refine rparse_miss_S s hz e0 e45 e1 e2 e3 hs (fun k h => ?_) w
      have hm := cutP_none hc ((s.extract 1 s.size)[k]) (by
        have := drop_byte (s.extract 1 s.size) k h
        exact List.mem_of_mem_drop (by rw [this]; simp))
      rw [beq_eq_false_iff_ne]
      intro h5
      exact hm (UInt8.toNat.inj (by rw [show (112 : UInt8).toNat = 112 from rfl]; omega))
    | some x =>
      obtain ⟨l, q⟩ := x
      obtain ⟨c1, c2⟩ := cutP_some hc
      simp only [Option.bind_some]
      by_cases hq : q = []
      · exact rparse_bare_S s hz e0 e45 e1 e2 e3 hs l q c1 c2 hq w
      by_cases hq2 : q.head? = some 45
      · exact rparse_minus_S s hz e0 e45 e1 e2 e3 hs l q c1 c2 hq2 w
      · exact rparse_plain_S s hz e0 e45 e1 e2 e3 hs l q c1 c2 ⟨hq, hq2⟩ w
  · obtain ⟨_, _, e45⟩ := rest_plain rfl h0 h45
    have hP : refP s.data.toList = (refMag s.data.toList).map fun r => 0 + r := by
      unfold refP; rw [if_neg h1, if_neg h45]
      cases refMag s.data.toList with
      | none => rfl
      | some r => exact congrArg some (Nat.zero_add r).symm
    rw [hP]
    by_cases h2 : s.data.toList = [105, 110, 102]
    · have e : (refMag s.data.toList).map (fun r => 0 + r) = some 9218868437227405312 := by rw [h2]; rfl
      rw [e]; exact rparse_inf_N s hz e0 e45 e1 (by rw [Lib.toList_data, h2]; rfl) w
    have e2 : (s.toList == [105, 110, 102]) = false := by rw [beq_eq_false_iff_ne, Lib.toList_data]; exact h2
    by_cases h3 : s.data.toList = [48]
    · have e : (refMag s.data.toList).map (fun r => 0 + r) = some 0 := by rw [h3]; rfl
      rw [e]; exact rparse_nought_N s hz e0 e45 e1 e2 (by rw [Lib.toList_data, h3]; rfl) w
    have e3 : (s.toList == [48]) = false := by rw [beq_eq_false_iff_ne, Lib.toList_data]; exact h3
    have hM : refMag s.data.toList = (cutP s.data.toList).bind fun x => refMid x.1 x.2 := by unfold refMag; rw [if_neg h2, if_neg h3]
    rw [hM]
    cases hc : cutP s.data.toList with
    | none =>
      refine rparse_miss_N s hz e0 e45 e1 e2 e3 hs (fun k h => ?_) w
      have hm := cutP_none hc (s[k]) (by
        have := drop_byte s k h
        exact List.mem_of_mem_drop (by rw [this]; simp))
      rw [beq_eq_false_iff_ne]
      intro h5
      exact hm (UInt8.toNat.inj (by rw [show (112 : UInt8).toNat = 112 from rfl]; omega))
    | some x =>
      obtain ⟨l, q⟩ := x
      obtain ⟨c1, c2⟩ := cutP_some hc
      simp only [Option.bind_some]
      by_cases hq : q = []
      · exact rparse_bare_N s hz e0 e45 e1 e2 e3 hs l q c1 c2 hq w
      by_cases hq2 : q.head? = some 45
      · exact rparse_minus_N s hz e0 e45 e1 e2 e3 hs l q c1 c2 hq2 w
      · exact rparse_plain_N s hz e0 e45 e1 e2 e3 hs l q c1 c2 ⟨hq, hq2⟩ w
end Go.Proofs.YtgppadnbfggkcaaDoor
