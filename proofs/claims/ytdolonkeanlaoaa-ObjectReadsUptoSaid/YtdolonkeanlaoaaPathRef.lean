/- The walk of the reference's Split. -/
import Derived.Test.YtdolonkeanlaoaaBase
import Derived.Test.YtdolonkeanlaoaaPathAll
namespace Go.Proofs.Ytdolonkeanlaoaa
open Go.RowKit Go.Lib

theorem str_cut (w : World) (x : List UInt8) (f k : Nat) (h1 : f ≤ k) (h2 : k ≤ x.length) : (Instr.slice 9 (.string ⟨x.toArray⟩) (some (.int .i64 (f : Int))) (some (.int .i64 (k : Int))) none).run Try.prog w = .ok (.string ⟨((x.drop f).take (k - f)).toArray⟩) w := by
  rw [run_slice_string _ _ _ _ _ _ _ (by kernel_rfl) (by omega) (by omega) (by rw [at_size]; omega)]
  congr 2
  have e1 : (f : Int).toNat = f := by omega
  have e2 : (k : Int).toNat = k := by omega
  rw [e1, e2, extract_list]
/-- The texts cut off so far, and where the next one begins. -/
def CutTo (p : List UInt8) (D : List (List UInt8)) (f k : Nat) : Prop :=
  (k ≤ p.length ∧ f ≤ k ∧ splitL p = D ++ splitL (p.drop f) ∧ ∀ j, f ≤ j → j < k → p.getD j 0 ≠ 47) ∨ (k = p.length + 1 ∧ f ≤ k ∧ D = splitL p)
theorem none47 {p : List UInt8} {f k : Nat} (h : ∀ j, f ≤ j → j < k → p.getD j 0 ≠ 47) (hk : k ≤ p.length) : (47 : UInt8) ∉ (p.drop f).take (k - f) := by
  intro hm
  obtain ⟨i, hi, e⟩ := List.getElem_of_mem hm
  rw [List.length_take, List.length_drop] at hi
  rw [List.getElem_take, List.getElem_drop] at e
  apply h (f + i) (by omega) (by omega)
  rw [← e]
  simp [List.getD, List.getElem?_eq_getElem (show f + i < p.length by omega)]
theorem CutTo.next {p : List UInt8} {D : List (List UInt8)} {f k : Nat} (h : CutTo p D f k) (hk : k < p.length) (h47 : p.getD k 0 ≠ 47) : CutTo p D f (k + 1) := by
  rcases h with ⟨h1, h2, h3, h4⟩ | ⟨h1, _⟩
  · refine Or.inl ⟨by omega, by omega, h3, fun j a b => ?_⟩
    by_cases e : j = k
    · rw [e]; exact h47
    · exact h4 j a (by omega)
  · omega
theorem CutTo.stroke {p : List UInt8} {D : List (List UInt8)} {f k : Nat} (h : CutTo p D f k) (hk : k < p.length) (h47 : p.getD k 0 = 47) : CutTo p (D ++ [(p.drop f).take (k - f)]) (k + 1) (k + 1) := by
  rcases h with ⟨h1, h2, h3, h4⟩ | ⟨h1, _⟩
  · refine Or.inl ⟨by omega, by omega, ?_, fun j a b => by omega⟩
    have e : p.drop f = (p.drop f).take (k - f) ++ 47 :: p.drop (k + 1) := by
      conv => lhs; rw [← List.take_append_drop (k - f) (p.drop f)]
      congr 1
      rw [List.drop_drop, show f + (k - f) = k by omega, List.drop_eq_getElem_cons hk]
      congr 1
      rw [← h47]; simp [List.getD, List.getElem?_eq_getElem hk]
    rw [h3]
    conv => lhs; rw [e, splitL_app (none47 h4 (by omega))]
    simp
  · omega
theorem CutTo.last {p : List UInt8} {D : List (List UInt8)} {f : Nat} (h : CutTo p D f p.length) : CutTo p (D ++ [(p.drop f).take (p.length - f)]) (p.length + 1) (p.length + 1) := by
  rcases h with ⟨h1, h2, h3, h4⟩ | ⟨h1, _⟩
  · refine Or.inr ⟨rfl, Nat.le_refl _, ?_⟩
    have e : (p.drop f).take (p.length - f) = p.drop f := List.take_of_length_le (by rw [List.length_drop]; omega)
    have hn := none47 h4 (Nat.le_refl _)
    rw [e] at hn ⊢
    rw [h3, splitL_none hn]
  · omega
theorem CutTo.le {p : List UInt8} {D : List (List UInt8)} {f k : Nat} (h : CutTo p D f k) : f ≤ k ∧ k ≤ p.length + 1 := by
  rcases h with ⟨h1, h2, _⟩ | ⟨h1, h2, _⟩ <;> omega
theorem CutTo.len {p : List UInt8} {D : List (List UInt8)} {f k : Nat} (h : CutTo p D f k) : D.length ≤ p.length + 1 := by
  have := splitL_len p
  have hc := List.count_le_length (a := (47 : UInt8)) (l := p)
  rcases h with ⟨_, _, h3, _⟩ | ⟨_, _, h3⟩
  · have := congrArg List.length h3
    rw [List.length_append] at this; omega
  · rw [h3]; omega
theorem nameB_bad {s : List UInt8} {k : Nat} (hk : k < s.length) (h : okB (s.getD k 0) = false) : nameB s = false := by
  have : s.all okB = false := by
    rw [List.all_eq_false]
    refine ⟨s[k], List.getElem_mem hk, ?_⟩
    rw [show s.getD k 0 = s[k] by simp [List.getD, List.getElem?_eq_getElem hk]] at h
    rw [h]; decide
  unfold nameB; rw [this, Bool.and_false]
theorem nameB_all {s : List UInt8} (h : 1 ≤ s.length ∧ s.length ≤ 64 ∧ s ≠ [46] ∧ s ≠ [46, 46]) (h2 : ∀ j, j < s.length → okB (s.getD j 0) = true) : nameB s = true := by
  rw [nameB_yes h, List.all_eq_true]
  intro x hx
  obtain ⟨j, hj, rfl⟩ := List.getElem_of_mem hx
  have := h2 j hj
  rwa [show s.getD j 0 = s[j] by simp [List.getD, List.getElem?_eq_getElem hj]] at this
theorem okB_toNat (c : UInt8) : okB c = decide (32 ≤ c.toNat ∧ c.toNat ≠ 127 ∧ c.toNat ≠ 47) := by
  unfold okB
  rw [Bool.eq_iff_iff]
  simp only [decide_eq_true_eq]
  rw [show (c ≠ 47) ↔ c.toNat ≠ 47 from ⟨fun h e => h (UInt8.toNat_inj.1 e), fun h e => h (by rw [e]; rfl)⟩]
set_option maxRecDepth 100000 in
set_option maxHeartbeats 2000000 in
theorem rname_any (s : List UInt8) (w : World) (hs : s.length ≤ 140737488355328) : Calls Try.prog 74 #[.string ⟨s.toArray⟩] w fun e w' => e = .returned (.bool (nameB s)) ∧ w = w' := by
  by_cases h1 : s = []
  · subst h1
    go_enter Try.func74, Try.ntmps74
    go_wp2_with fail
    go_ret
    exact ⟨rfl, rfl⟩
  · by_cases h3 : s = [46]
    · subst h3
      go_enter Try.func74, Try.ntmps74
      go_wp2_with fail
      go_ret
      exact ⟨rfl, rfl⟩
    · by_cases h4 : s = [46, 46]
      · subst h4
        go_enter Try.func74, Try.ntmps74
        go_wp2_with fail
        go_ret
        exact ⟨rfl, rfl⟩
      · have g1 : s.isEmpty = false := by cases s; exact absurd rfl h1; rfl
        have g3 : (s == [46]) = false := by rw [beq_eq_false_iff_ne]; exact h3
        have g4 : (s == [46, 46]) = false := by rw [beq_eq_false_iff_ne]; exact h4
        have hpos := List.length_pos_iff.2 h1
        by_cases h2 : 64 < s.length
        · have HN : Hid (nameB s = false) := Lib.hid (nameB_no (by omega))
          clear h1 h3 h4
          go_enter Try.func74, Try.ntmps74
          go_wp2_with fail
          go_ret
          exact ⟨by rw [HN.out]; rfl, rfl⟩
        · have HY := Lib.hid (nameB_all (s := s) ⟨by omega, by omega, h3, h4⟩)
          have HB := Lib.hid (fun k => nameB_bad (s := s) (k := k))
          clear h1 h3 h4
          go_enter Try.func74, Try.ntmps74
          go_wp2_with fail
          go_loop [3] (fun i => ∃ k : Nat, k ≤ s.length ∧ i = .int .i64 k ∧ Hid (∀ j, j < k → okB (s.getD j 0) = true)) (fun i => s.length - (intOf i).toNat)
          case atStart => exact ⟨0, Nat.zero_le _, rfl, Lib.hid (fun j hj => absurd hj (by omega))⟩
          case round =>
            obtain ⟨k, hk, rfl, ha⟩ := hrel
            by_cases hlt : k < s.length
            · have hx := fun W => str_at W s k hlt
              have HBK := Lib.hid (HB.out k hlt)
              have HK := Lib.hid (okB_toNat (s.getD k 0))
              have HST : Hid (okB (s.getD k 0) = true → ∀ j, j < k + 1 → okB (s.getD j 0) = true) := Lib.hid (fun e j hj => by
                by_cases ej : j = k
                · rw [ej]; exact e
                · exact ha.out j (by omega))
              generalize okB (s.getD k 0) = q at *
              generalize (s.getD k 0).toNat = y at *
              clear ha
              by_cases hy : 32 ≤ y ∧ y ≠ 127 ∧ y ≠ 47
              · obtain ⟨y1, y2, y3⟩ := hy
                have HG := Lib.hid (HST.out (by rw [HK.out]; exact decide_eq_true ⟨y1, y2, y3⟩))
                have k2 : ((y : Int) == 127) = false := by rw [beq_eq_false_iff_ne]; omega
                have k3 : ((y : Int) == 47) = false := by rw [beq_eq_false_iff_ne]; omega
                clear y2 y3
                go_wp2_with fail
                go_round
                case rel => exact ⟨k + 1, by omega, by go_num, HG⟩
                case measure => simp [intOf]; omega
              · have HF : Hid (nameB s = false) := Lib.hid (HBK.out (by rw [HK.out]; exact decide_eq_false hy))
                by_cases y1 : y < 32
                · clear hy
                  go_wp2_with fail
                  go_ret
                  exact ⟨by rw [HF.out]; rfl, rfl⟩
                · by_cases y2 : y = 127
                  · subst y2
                    clear hy
                    go_wp2_with fail
                    go_ret
                    exact ⟨by rw [HF.out]; rfl, rfl⟩
                  · have y3 : y = 47 := by omega
                    subst y3
                    clear hy y2
                    go_wp2_with fail
                    go_ret
                    exact ⟨by rw [HF.out]; rfl, rfl⟩
            · have HT : Hid (nameB s = true) := Lib.hid (HY.out (fun j hj => ha.out j (by omega)))
              go_wp2_with fail
              go_ret
              exact ⟨by rw [HT.out]; rfl, rfl⟩
end Go.Proofs.Ytdolonkeanlaoaa
