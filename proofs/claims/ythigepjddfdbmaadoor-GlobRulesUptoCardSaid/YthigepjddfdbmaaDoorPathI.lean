/- The walks of Check, Parent, Join. -/
import Derived.Test.YthigepjddfdbmaaDoorPathH
namespace Go.Proofs.YthigepjddfdbmaaDoor
open Go.RowKit Go.Lib

theorem splitL_short (s : List UInt8) : ∀ x ∈ splitL s, x.length ≤ s.length := by
  induction s with
  | nil => intro x hx; simp [splitL] at hx; rw [hx]; exact Nat.le_refl _
  | cons c t ih =>
    obtain ⟨y, r, e⟩ := splitL_shape t
    by_cases h : c = 47
    · subst h
      rw [splitL_stroke]
      intro x hx
      rcases List.mem_cons.1 hx with rfl | hx
      · simp
      · have := ih x hx; simp; omega
    · rw [splitL_cons h, e]
      rw [e] at ih
      intro x hx
      rcases List.mem_cons.1 hx with rfl | hx
      · have := ih y List.mem_cons_self; simpa using this
      · have := ih x (List.mem_cons_of_mem _ hx); simp; omega
theorem namesL_short (s : List UInt8) : ∀ x ∈ namesL s, x.length ≤ s.length := by
  unfold namesL; split
  · intro x hx; cases hx
  · exact splitL_short s
theorem namesL_len (s : List UInt8) : (namesL s).length ≤ s.length + 1 := by
  unfold namesL; split
  · simp
  · rw [splitL_len]; have := List.count_le_length (a := (47 : UInt8)) (l := s); omega
set_option maxRecDepth 100000 in
set_option maxHeartbeats 1000000 in
theorem check_any (p : List UInt8) (w : World) (hp : p.length ≤ 4194304) (hE : PEnv w) : Calls Tryd.prog 18 #[.string ⟨p.toArray⟩] w fun e w' => e = .returned (.int .i64 (checkN p)) ∧ Below w.heap.size w w' := by
  have HS := Lib.hid (split_any p w hp hE)
  have hnl := namesL_len p
  have HX := Lib.hid (fun (S : Nat → Prop) v W h1 h2 => any_wrong S v (namesL p) W h1 h2 (by omega) (fun x hx => by have := namesL_short p x hx; omega))
  clear hE
  go_enter Tryd.func18, Tryd.ntmps18
  go_wp2_with fail
  refine HS.out.mono ?_
  rintro e w1 ⟨v, rfl, hv, hb⟩
  have V := Lib.hid hv
  have B := Lib.hid hb
  obtain ⟨a, c, rfl⟩ := hv.shape
  clear hv hb
  by_cases h1 : 255 < p.length
  · have HN : Hid (checkN p = 2) := Lib.hid (if_pos (Or.inl h1))
    go_wp2_with fail
    go_ret
    exact ⟨by rw [HN.out]; rfl, B.out⟩
  · by_cases h2 : 16 < (namesL p).length
    · have HN : Hid (checkN p = 2) := Lib.hid (if_pos (Or.inr h2))
      go_wp2_with fail
      go_ret
      exact ⟨by rw [HN.out]; rfl, B.out⟩
    · have HN : Hid (checkN p = if p = [] ∨ (namesL p).all nameB = false then 50 else 0) := Lib.hid (if_neg (by omega))
      by_cases h3 : p = []
      · have HN2 : Hid (checkN p = 50) := Lib.hid (HN.out.trans (if_pos (Or.inl h3)))
        have g3 : p.isEmpty = true := by rw [h3]; rfl
        clear h3
        go_wp2_with fail
        go_ret
        exact ⟨by rw [HN2.out]; rfl, B.out⟩
      · have g3 : p.isEmpty = false := by cases p; exact absurd rfl h3; rfl
        have HN2 : Hid (∀ b, (namesL p).all nameB = b → checkN p = if b = false then 50 else 0) := Lib.hid (fun b hb => by
          rw [HN.out, hb]
          by_cases e : b = false
          · rw [if_pos (Or.inr e), if_pos e]
          · rw [if_neg (fun h => h.elim h3 e), if_neg e])
        have HC := Lib.hid (HX.out _ _ w1 (fun k hk => hk.2) V.out)
        obtain ⟨b, hb⟩ : ∃ b, (namesL p).all nameB = b := ⟨_, rfl⟩
        rw [hb] at HC
        have HB := Lib.hid (HN2.out b hb)
        clear hb h3
        go_wp2_with fail
        refine HC.out.mono ?_
        rintro e w2 ⟨rfl, hb2⟩
        have B2 := Lib.hid (B.out.trans (hb2.mono B.out.size))
        clear hb2
        cases b
        · go_wp2_with fail
          go_ret
          exact ⟨by rw [HB.out]; rfl, B2.out⟩
        · go_wp2_with fail
          go_ret
          exact ⟨by rw [HB.out]; rfl, B2.out⟩
/-- What stands ahead of the last stroke. -/
def parentN (p : List UInt8) : List UInt8 := p.take (lastIndexByte ⟨p.toArray⟩ 47).toNat
theorem last_le (p : List UInt8) : -1 ≤ lastIndexByte ⟨p.toArray⟩ 47 ∧ lastIndexByte ⟨p.toArray⟩ 47 ≤ p.length := by
  have := lastIdx_spec ⟨p.toArray⟩ 47 (⟨p.toArray⟩ : ByteArray).size
  rw [at_size] at this
  unfold lastIndexByte
  rw [at_size]
  rcases this with ⟨h, _⟩ | ⟨i, h1, h2, _⟩ <;> omega
set_option maxRecDepth 100000 in
set_option maxHeartbeats 1000000 in
theorem parent_any (p : List UInt8) (w : World) (hp : p.length ≤ 4194304) : Calls Tryd.prog 22 #[.string ⟨p.toArray⟩] w fun e w' => e = .returned (.string ⟨(parentN p).toArray⟩) ∧ w = w' := by
  have HC := Lib.hid (Tryd.strings_LastIndexByte ⟨p.toArray⟩ 47 (by rw [at_size]; omega) w)
  obtain ⟨h1, h2⟩ := last_le p
  have HP : Hid (parentN p = p.take (lastIndexByte ⟨p.toArray⟩ 47).toNat) := Lib.hid rfl
  generalize lastIndexByte ⟨p.toArray⟩ 47 = k at *
  generalize parentN p = r at *
  go_enter Tryd.func22, Tryd.ntmps22
  go_wp2_with fail
  refine HC.out.mono ?_
  rintro e w1 ⟨rfl, rfl⟩
  by_cases h3 : 0 ≤ k
  · obtain ⟨n, rfl⟩ : ∃ n : Nat, k = n := ⟨k.toNat, by omega⟩
    go_wp2_with fail
    go_ret
    refine ⟨?_, rfl⟩
    rw [HP.out]
    have := extract_list p 0 n
    simp at this
    simp [this]
  · have hk : k = -1 := by omega
    subst hk
    go_wp2_with fail
    go_ret
    refine ⟨?_, rfl⟩
    rw [HP.out]
    have := extract_list p 0 0
    simp at this
    have e : (max (0 : Int) (-1)).toNat = 0 := by decide
    simp [this, e]
end Go.Proofs.YthigepjddfdbmaaDoor
