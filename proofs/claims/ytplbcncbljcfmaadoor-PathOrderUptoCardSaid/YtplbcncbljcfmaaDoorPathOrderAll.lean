/- The walk of the law PathOrder. -/
import Derived.Test.YtplbcncbljcfmaaDoorPathJ
namespace Go.Proofs.YtplbcncbljcfmaaDoor
open Go.RowKit Go.Lib

theorem strs_three (w : World) (a b c : List UInt8) : StrsC (fun k => w.heap.size ≤ k ∧ k < w.heap.size + 1) (w.alloc (.cells #[.string ⟨a.toArray⟩, .string ⟨b.toArray⟩, .string ⟨c.toArray⟩] 9)) (.slice (some ⟨w.heap.size, 0, none⟩) 3 3) [a, b, c] :=
  strs_of w [⟨a.toArray⟩, ⟨b.toArray⟩, ⟨c.toArray⟩]
set_option maxRecDepth 100000 in
set_option maxHeartbeats 8000000 in
theorem order_law (a b c : List UInt8) (w : World) (ha : a.length ≤ 4194304) (hb : b.length ≤ 4194304) (hc : c.length ≤ 4194304) (hE : PEnv w) :
    Calls Tryd.prog 10 #[.string ⟨a.toArray⟩, .string ⟨b.toArray⟩, .string ⟨c.toArray⟩] w (TrueP w) := by
  have HE := Lib.hid hE
  have C1 := Lib.hid (fun W => compare_any a b W (by omega) (by omega))
  have C2 := Lib.hid (fun W => compare_any b c W (by omega) (by omega))
  have C3 := Lib.hid (fun W => compare_any a c W (by omega) (by omega))
  have C4 := Lib.hid (fun W => compare_any b a W (by omega) (by omega))
  have U1 := Lib.hid (under_any a b)
  have U2 := Lib.hid (under_any c b)
  have HV := Lib.hid (fun W (h : PEnv W) => valid_any _ _ [a, b, c] _ (fun k hk => by simp; omega) (strs_three W a b c) (by simp) (fun x hx => by
    simp only [List.mem_cons, List.not_mem_nil, or_false] at hx
    rcases hx with rfl | rfl | rfl <;> assumption) (h.on ((Below.refl _ _).alloc (Nat.le_refl _) _)))
  rw [cmpP_neg b a] at C4
  have hx := cmpP_cases a b
  have hy := cmpP_cases b c
  have hz := cmpP_cases a c
  have he := cmpP_zero a b
  have ht := cmpP_trans a b c
  have hu := fun h => under_one (a := a) (b := b) h
  have hw := fun h1 h2 h3 => under_wedge (a := a) (b := b) (c := c) h1 h2 h3
  generalize cmpP a b = x at *
  generalize cmpP b c = y at *
  generalize cmpP a c = z at *
  generalize underB a b = u1 at *
  generalize underB c b = u2 at *
  have X := Lib.hid hx
  have Y := Lib.hid hy
  have Z := Lib.hid hz
  have E := Lib.hid he
  have T := Lib.hid ht
  have HU := Lib.hid hu
  have HW := Lib.hid hw
  clear hE hx hy hz he ht hu hw ha hb hc
  go_enter Tryd.func10, Tryd.ntmps10
  go_wp2_with fail
  refine (awake5_any _ HE.out).mono ?_
  rintro e w1 ⟨rfl, hb1⟩
  have B1 := Lib.hid hb1
  clear hb1
  go_wp2_with fail
  refine (HV.out w1 (HE.out.on B1.out)).mono ?_
  rintro e w2 ⟨v, rfl, hv, hb2⟩
  obtain ⟨va, vc, rfl⟩ := ownS_slice hv
  have B2 := Lib.hid ((B1.out.alloc B1.out.size _).trans (hb2.mono (by have := B1.out.size; simp; omega)))
  generalize (validL [a, b, c]).length = n at *
  clear hb2 hv HV
  by_cases h3 : n = 3
  · subst h3
    go_wp2_with fail
    refine (C1.out _).mono ?_
    rintro e w3 ⟨rfl, n3, rfl⟩
    have B3 := Lib.hid (B2.out.trans (drewn _ w2 n3))
    generalize w2.drewN n3 = w3 at *
    go_wp2_with fail
    refine (C2.out _).mono ?_
    rintro e w4 ⟨rfl, n4, rfl⟩
    have B4 := Lib.hid (B3.out.trans (drewn _ w3 n4))
    generalize w3.drewN n4 = w4 at *
    go_wp2_with fail
    refine (C3.out _).mono ?_
    rintro e w5 ⟨rfl, n5, rfl⟩
    have B5 := Lib.hid (B4.out.trans (drewn _ w4 n5))
    generalize w4.drewN n5 = w5 at *
    go_wp2_with fail
    refine (C4.out _).mono ?_
    rintro e w6 ⟨rfl, n6, rfl⟩
    have B6 := Lib.hid (B5.out.trans (drewn _ w5 n6))
    generalize w5.drewN n6 = w6 at *
    have HAB : Hid (∀ q, (a == b) = q → (x = 0 ↔ q = true)) := Lib.hid (fun q hq => by rw [E.out, ← hq]; simp)
    obtain ⟨q, hq⟩ : ∃ q, (a == b) = q := ⟨_, rfl⟩
    have HQ := Lib.hid (HAB.out q hq)
    clear HAB
    have key : Hid ((x = -1 ∧ q = false ∨ x = 0 ∧ q = true ∨ x = 1 ∧ q = false)) := Lib.hid (by
      rcases X.out with h | h | h
      · left; refine ⟨h, ?_⟩; cases q; rfl; have := HQ.out.2 rfl; omega
      · right; left; exact ⟨h, HQ.out.1 h⟩
      · right; right; refine ⟨h, ?_⟩; cases q; rfl; have := HQ.out.2 rfl; omega)
    rcases key.out with ⟨rfl, rfl⟩ | ⟨rfl, rfl⟩ | ⟨rfl, rfl⟩
    · obtain rfl : u1 = false := by
        cases u1
        · rfl
        · exact absurd (HU.out rfl) (by decide)
      have ht := T.out (by decide)
      have hyz : y ≤ 0 ∧ z ≤ 0 ∨ ¬ y ≤ 0 := by
        by_cases h : y ≤ 0
        · exact Or.inl ⟨h, ht h⟩
        · exact Or.inr h
      clear X Y Z E T HQ key HU HW ht
      rcases hyz with ⟨h1, h2⟩ | h1
      all_goals
        go_wp2_with fail
        refine (U1.out _).mono ?_
        rintro e w7 ⟨rfl, rfl⟩
        go_wp2_with fail
        refine (U1.out _).mono ?_
        rintro e w7 ⟨rfl, rfl⟩
        go_wp2_with fail
        go_ret
        exact ⟨rfl, B6.out⟩
    · obtain rfl : u1 = false := by
        cases u1
        · rfl
        · exact absurd (HU.out rfl) (by decide)
      have ht := T.out (by decide)
      have hyz : y ≤ 0 ∧ z ≤ 0 ∨ ¬ y ≤ 0 := by
        by_cases h : y ≤ 0
        · exact Or.inl ⟨h, ht h⟩
        · exact Or.inr h
      clear X Y Z E T HQ key HU HW ht
      rcases hyz with ⟨h1, h2⟩ | h1
      all_goals
        go_wp2_with fail
        refine (U1.out _).mono ?_
        rintro e w7 ⟨rfl, rfl⟩
        go_wp2_with fail
        refine (U1.out _).mono ?_
        rintro e w7 ⟨rfl, rfl⟩
        go_wp2_with fail
        go_ret
        exact ⟨rfl, B6.out⟩
    · have hw := fun h1 h2 => HW.out h1 h2
      clear X Y Z E T HQ key HU HW
      cases u1
      · clear hw
        go_wp2_with fail
        refine (U1.out _).mono ?_
        rintro e w7 ⟨rfl, rfl⟩
        go_wp2_with fail
        refine (U1.out _).mono ?_
        rintro e w7 ⟨rfl, rfl⟩
        go_wp2_with fail
        go_ret
        exact ⟨rfl, B6.out⟩
      · cases u2
        · have hyz : 0 ≤ y ∨ y < 0 ∧ z < 0 := by
            by_cases h : y < 0
            · exact Or.inr ⟨h, hw rfl rfl h⟩
            · exact Or.inl (by omega)
          clear hw
          go_wp2_with fail
          refine (U1.out _).mono ?_
          rintro e w7 ⟨rfl, rfl⟩
          go_wp2_with fail
          refine (U1.out _).mono ?_
          rintro e w7 ⟨rfl, rfl⟩
          go_wp2_with fail
          refine (U2.out _).mono ?_
          rintro e w7 ⟨rfl, rfl⟩
          rcases hyz with h1 | ⟨h1, h2⟩
          · go_wp2_with fail
            go_ret
            exact ⟨rfl, B6.out⟩
          · go_wp2_with fail
            refine (C3.out _).mono ?_
            rintro e w8 ⟨rfl, n8, rfl⟩
            have B8 := Lib.hid (B6.out.trans (drewn _ w6 n8))
            generalize w6.drewN n8 = w8 at *
            go_wp2_with fail
            go_ret
            exact ⟨by first | rfl | simp [h2], B8.out⟩
        · clear hw
          go_wp2_with fail
          refine (U1.out _).mono ?_
          rintro e w7 ⟨rfl, rfl⟩
          go_wp2_with fail
          refine (U1.out _).mono ?_
          rintro e w7 ⟨rfl, rfl⟩
          go_wp2_with fail
          refine (U2.out _).mono ?_
          rintro e w7 ⟨rfl, rfl⟩
          go_wp2_with fail
          go_ret
          exact ⟨rfl, B6.out⟩
  · have g3 : ((n : Int) != 3) = true := by rw [bne_iff_ne]; omega
    clear h3
    go_wp2_with fail
    go_ret
    exact ⟨rfl, B2.out⟩
end Go.Proofs.YtplbcncbljcfmaaDoor
