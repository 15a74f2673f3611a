/- The walk of the reference's Split. -/
import Derived.Test.YthigepjddfdbmaaDoorPathK
namespace Go.Proofs.YthigepjddfdbmaaDoor
open Go.RowKit Go.Lib

theorem str_cut (w : World) (x : List UInt8) (f k : Nat) (h1 : f ≤ k) (h2 : k ≤ x.length) : (Instr.slice 9 (.string ⟨x.toArray⟩) (some (.int .i64 (f : Int))) (some (.int .i64 (k : Int))) none).run Tryd.prog w = .ok (.string ⟨((x.drop f).take (k - f)).toArray⟩) w := by
  rw [run_slice_string _ _ _ _ _ _ _ (by kernel_rfl) (by omega) (by omega) (by rw [at_size]; omega)]
  congr 2
  have e1 : (f : Int).toNat = f := by omega
  have e2 : (k : Int).toNat = k := by omega
  rw [e1, e2, extract_list]
/-- The texts cut off so far, and where the next one begins. -/
def CutTo (p : List UInt8) (D : List (List UInt8)) (f k : Nat) : Prop :=
  (k ≤ p.length ∧ f ≤ k ∧ splitL p = D ++ splitL (p.drop f) ∧ ∀ j, f ≤ j → j < k → p.getD j 0 ≠ 47) ∨ (k = p.length + 1 ∧ f ≤ k ∧ D = splitL p)
theorem none47 {p : List UInt8} {f k : Nat} (h : ∀ j, f ≤ j → j < k → p.getD j 0 ≠ 47) (hk : k ≤ p.length) : (47 : UInt8) ∉ (p.drop f).take (k - f) := by
  intro hm
  obtain ⟨i, hi, e⟩ := List.getElem_of_mem hm
  rw [List.length_take, List.length_drop] at hi
  rw [List.getElem_take, List.getElem_drop] at e
  apply h (f + i) (by omega) (by omega)
  rw [← e]
  simp [List.getD, List.getElem?_eq_getElem (show f + i < p.length by omega)]
theorem CutTo.next {p : List UInt8} {D : List (List UInt8)} {f k : Nat} (h : CutTo p D f k) (hk : k < p.length) (h47 : p.getD k 0 ≠ 47) : CutTo p D f (k + 1) := by
  rcases h with ⟨h1, h2, h3, h4⟩ | ⟨h1, _⟩
  · refine Or.inl ⟨by omega, by omega, h3, fun j a b => ?_⟩
    by_cases e : j = k
    · rw [e]; exact h47
    · exact h4 j a (by omega)
  · omega
theorem CutTo.stroke {p : List UInt8} {D : List (List UInt8)} {f k : Nat} (h : CutTo p D f k) (hk : k < p.length) (h47 : p.getD k 0 = 47) : CutTo p (D ++ [(p.drop f).take (k - f)]) (k + 1) (k + 1) := by
  rcases h with ⟨h1, h2, h3, h4⟩ | ⟨h1, _⟩
  · refine Or.inl ⟨by omega, by omega, ?_, fun j a b => by omega⟩
    have e : p.drop f = (p.drop f).take (k - f) ++ 47 :: p.drop (k + 1) := by
      conv => lhs; rw [← List.take_append_drop (k - f) (p.drop f)]
      congr 1
      rw [List.drop_drop, show f + (k - f) = k by omega, List.drop_eq_getElem_cons hk]
      congr 1
      rw [← h47]; simp [List.getD, List.getElem?_eq_getElem hk]
    rw [h3]
    conv => lhs; rw [e, splitL_app (none47 h4 (by omega))]
    simp
  · omega
theorem CutTo.last {p : List UInt8} {D : List (List UInt8)} {f : Nat} (h : CutTo p D f p.length) : CutTo p (D ++ [(p.drop f).take (p.length - f)]) (p.length + 1) (p.length + 1) := by
  rcases h with ⟨h1, h2, h3, h4⟩ | ⟨h1, _⟩
  · refine Or.inr ⟨rfl, Nat.le_refl _, ?_⟩
    have e : (p.drop f).take (p.length - f) = p.drop f := List.take_of_length_le (by rw [List.length_drop]; omega)
    have hn := none47 h4 (Nat.le_refl _)
    rw [e] at hn ⊢
    rw [h3, splitL_none hn]
  · omega
theorem CutTo.le {p : List UInt8} {D : List (List UInt8)} {f k : Nat} (h : CutTo p D f k) : f ≤ k ∧ k ≤ p.length + 1 := by
  rcases h with ⟨h1, h2, _⟩ | ⟨h1, h2, _⟩ <;> omega
theorem CutTo.len {p : List UInt8} {D : List (List UInt8)} {f k : Nat} (h : CutTo p D f k) : D.length ≤ p.length + 1 := by
  have := splitL_len p
  have hc := List.count_le_length (a := (47 : UInt8)) (l := p)
  rcases h with ⟨_, _, h3, _⟩ | ⟨_, _, h3⟩
  · have := congrArg List.length h3
    rw [List.length_append] at this; omega
  · rw [h3]; omega
theorem ownS_empty (w : World) : OwnS (w.alloc (.cells #[] 9)) w.heap.size (.slice (some ⟨w.heap.size, 0, none⟩) 0 0) [] :=
  ⟨rfl, Or.inr ⟨w.heap.size, 0, #[], rfl, Nat.le_refl _, new_five w _ _, Nat.le_refl _, Nat.zero_le _, rfl, rfl⟩⟩
set_option maxRecDepth 100000 in
set_option maxHeartbeats 2000000 in
theorem rsplit_any (p : List UInt8) (w : World) (hp : p.length ≤ 4194304) : Calls Tryd.prog 26 #[.string ⟨p.toArray⟩] w fun e w' => ∃ v, e = .returned v ∧ OwnS w' w.heap.size v (namesL p) ∧ Below w.heap.size w w' := by
  obtain ⟨i0, hi, hz0, hz1, hz2⟩ := info_parts Tryd.info9s
  by_cases h0 : p = []
  · subst h0
    have HR := Lib.hid (Below.refl w.heap.size w)
    go_enter Tryd.func26, Tryd.ntmps26
    go_wp2_with fail
    go_ret
    exact ⟨_, rfl, ownS_nil _ _, HR.out⟩
  · have g1 : p.isEmpty = false := by cases p; exact absurd rfl h0; rfl
    have HNL : Hid (namesL p = splitL p) := Lib.hid (by unfold namesL; rw [if_neg h0])
    have HO := Lib.hid (ownS_empty w)
    have HB := Lib.hid ((Below.refl w.heap.size w).alloc (Nat.le_refl _) (.cells #[] 9))
    have HC0 : Hid (CutTo p [] 0 0) := Lib.hid (Or.inl ⟨Nat.zero_le _, Nat.le_refl _, rfl, fun j _ hj => absurd hj (by omega)⟩)
    clear h0
    go_enter Tryd.func26, Tryd.ntmps26
    go_wp2_with fail
    generalize w.alloc (.cells #[] 9) = w1 at *
    go_loopw [3, 4, 5] (fun o f i wr => ∃ (k g : Nat) (D : List (List UInt8)), i = .int .i64 k ∧ f = .int .i64 g ∧ Hid (CutTo p D g k) ∧ OwnS wr w.heap.size o D ∧ Below w.heap.size w wr) (fun _ _ i _ => p.length + 2 - (intOf i).toNat)
    case atStart => exact ⟨0, 0, [], rfl, rfl, HC0, HO.out, HB.out⟩
    case round =>
      obtain ⟨k, g, D, rfl, rfl, hct, ho, hb⟩ := hrel
      have O := Lib.hid ho
      have B := Lib.hid hb
      have hsz := hb.size
      obtain ⟨hgk, hkl⟩ := hct.out.le
      have hdl := hct.out.len
      obtain ⟨oa, oc, rfl⟩ := ownS_slice ho
      clear ho hb HO HB HC0
      by_cases hlast : k = p.length + 1
      · have HD : Hid (D = namesL p) := Lib.hid (by
          rcases hct.out with ⟨h1, _⟩ | ⟨_, _, h3⟩
          · omega
          · rw [h3, HNL.out])
        go_wp2_with fail
        go_ret
        exact ⟨_, rfl, by rw [← HD.out]; exact O.out, B.out⟩
      · by_cases hk : k < p.length
        · have hx := fun W => str_at W p k hk
          have ge : ((k : Int) == (p.length : Int)) = false := by rw [beq_eq_false_iff_ne]; omega
          by_cases h47 : p.getD k 0 = 47
          · have HN := Lib.hid (hct.out.stroke hk h47)
            have hcu := fun W => str_cut W p g k hgk (by omega)
            rw [h47] at hx
            generalize (p.drop g).take (k - g) = x at *
            clear h47 hlast
            go_wp2_with (at_builtin; refine wpList_own_src _ rfl _ _ 30 30 rfl w.heap.size 9 i0 (.string ByteArray.empty) 1 16 Tryd.underlying30 hi hz0 hz1 hz2 rfl (by decide) _ _ _ rfl (World.ownsRow.alloc O.out _) _ 1 [.string ⟨x.toArray⟩] rfl (srcS_one _ _) ?c13 ?c14 ?c15 ?_)
            case c13 => unfold maxLen; omega
            case c14 => omega
            case c15 => simp; omega
            intro v4 w4 hown4 hg4
            have HO4 := Lib.hid (ownS_push hown4)
            have HB4 := Lib.hid ((B.out.alloc (by omega) _).grown hg4.gb (by simp; omega) (fun j hj => (World.ownsRow.lt O.out j hj).1))
            clear hown4 hg4
            go_wp2_with fail
            go_roundw
            case rel => exact ⟨k + 1, k + 1, D ++ [x], by go_num, by go_num, HN, HO4.out, HB4.out⟩
            case measure => simp [intOf]; omega
          · have HN := Lib.hid (hct.out.next hk h47)
            have g4 : (((p.getD k 0).toNat : Int) == 47) = false := by
              rw [beq_eq_false_iff_ne]; intro e; exact h47 (UInt8.toNat_inj.1 (by rw [show (47 : UInt8).toNat = 47 from rfl]; omega))
            generalize (p.getD k 0).toNat = y at *
            clear h47 hlast
            go_wp2_with fail
            go_roundw
            case rel => exact ⟨k + 1, g, D, by go_num, rfl, HN, O.out, B.out⟩
            case measure => simp [intOf]; omega
        · have hkp : k = p.length := by omega
          have HN : Hid (CutTo p (D ++ [(p.drop g).take (k - g)]) (k + 1) (k + 1)) := Lib.hid (by
            rw [hkp]
            have := hct.out
            rw [hkp] at this
            exact this.last)
          have hcu := fun W => str_cut W p g k hgk (by omega)
          have ge : ((k : Int) == (p.length : Int)) = true := by rw [hkp]; simp
          have hle : k ≤ p.length := by omega
          generalize (p.drop g).take (k - g) = x at *
          clear hlast hkp
          go_wp2_with (at_builtin; refine wpList_own_src _ rfl _ _ 30 30 rfl w.heap.size 9 i0 (.string ByteArray.empty) 1 16 Tryd.underlying30 hi hz0 hz1 hz2 rfl (by decide) _ _ _ rfl (World.ownsRow.alloc O.out _) _ 1 [.string ⟨x.toArray⟩] rfl (srcS_one _ _) ?c16 ?c17 ?c18 ?_)
          case c16 => unfold maxLen; omega
          case c17 => omega
          case c18 => simp; omega
          intro v4 w4 hown4 hg4
          have HO4 := Lib.hid (ownS_push hown4)
          have HB4 := Lib.hid ((B.out.alloc (by omega) _).grown hg4.gb (by simp; omega) (fun j hj => (World.ownsRow.lt O.out j hj).1))
          clear hown4 hg4
          go_wp2_with fail
          go_roundw
          case rel => exact ⟨k + 1, k + 1, D ++ [x], by go_num, by go_num, HN, HO4.out, HB4.out⟩
          case measure => simp [intOf]; omega
end Go.Proofs.YthigepjddfdbmaaDoor
