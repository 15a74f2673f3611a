/- The walks of the reference's Name, Check, Under. -/
import Derived.Test.YtplbcncbljcfmaaDoorPathM
namespace Go.Proofs.YtplbcncbljcfmaaDoor
open Go.RowKit Go.Lib

theorem nameB_bad {s : List UInt8} {k : Nat} (hk : k < s.length) (h : okB (s.getD k 0) = false) : nameB s = false := by
  have : s.all okB = false := by
    rw [List.all_eq_false]
    refine ⟨s[k], List.getElem_mem hk, ?_⟩
    rw [show s.getD k 0 = s[k] by simp [List.getD, List.getElem?_eq_getElem hk]] at h
    rw [h]; decide
  unfold nameB; rw [this, Bool.and_false]
theorem nameB_all {s : List UInt8} (h : 1 ≤ s.length ∧ s.length ≤ 64 ∧ s ≠ [46] ∧ s ≠ [46, 46]) (h2 : ∀ j, j < s.length → okB (s.getD j 0) = true) : nameB s = true := by
  rw [nameB_yes h, List.all_eq_true]
  intro x hx
  obtain ⟨j, hj, rfl⟩ := List.getElem_of_mem hx
  have := h2 j hj
  rwa [show s.getD j 0 = s[j] by simp [List.getD, List.getElem?_eq_getElem hj]] at this
theorem okB_toNat (c : UInt8) : okB c = decide (32 ≤ c.toNat ∧ c.toNat ≠ 127 ∧ c.toNat ≠ 47) := by
  unfold okB
  rw [Bool.eq_iff_iff]
  simp only [decide_eq_true_eq]
  rw [show (c ≠ 47) ↔ c.toNat ≠ 47 from ⟨fun h e => h (UInt8.toNat_inj.1 e), fun h e => h (by rw [e]; rfl)⟩]
set_option maxRecDepth 100000 in
set_option maxHeartbeats 2000000 in
theorem rname_any (s : List UInt8) (w : World) (hs : s.length ≤ 140737488355328) : Calls Tryd.prog 30 #[.string ⟨s.toArray⟩] w fun e w' => e = .returned (.bool (nameB s)) ∧ w = w' := by
  by_cases h1 : s = []
  · subst h1
    go_enter Tryd.func30, Tryd.ntmps30
    go_wp2_with fail
    go_ret
    exact ⟨rfl, rfl⟩
  · by_cases h3 : s = [46]
    · subst h3
      go_enter Tryd.func30, Tryd.ntmps30
      go_wp2_with fail
      go_ret
      exact ⟨rfl, rfl⟩
    · by_cases h4 : s = [46, 46]
      · subst h4
        go_enter Tryd.func30, Tryd.ntmps30
        go_wp2_with fail
        go_ret
        exact ⟨rfl, rfl⟩
      · have g1 : s.isEmpty = false := by cases s; exact absurd rfl h1; rfl
        have g3 : (s == [46]) = false := by rw [beq_eq_false_iff_ne]; exact h3
        have g4 : (s == [46, 46]) = false := by rw [beq_eq_false_iff_ne]; exact h4
        have hpos := List.length_pos_iff.2 h1
        by_cases h2 : 64 < s.length
        · have HN : Hid (nameB s = false) := Lib.hid (nameB_no (by omega))
          clear h1 h3 h4
          go_enter Tryd.func30, Tryd.ntmps30
          go_wp2_with fail
          go_ret
          exact ⟨by rw [HN.out]; rfl, rfl⟩
        · have HY := Lib.hid (nameB_all (s := s) ⟨by omega, by omega, h3, h4⟩)
          have HB := Lib.hid (fun k => nameB_bad (s := s) (k := k))
          clear h1 h3 h4
          go_enter Tryd.func30, Tryd.ntmps30
          go_wp2_with fail
          go_loop [3] (fun i => ∃ k : Nat, k ≤ s.length ∧ i = .int .i64 k ∧ Hid (∀ j, j < k → okB (s.getD j 0) = true)) (fun i => s.length - (intOf i).toNat)
          case atStart => exact ⟨0, Nat.zero_le _, rfl, Lib.hid (fun j hj => absurd hj (by omega))⟩
          case round =>
            obtain ⟨k, hk, rfl, ha⟩ := hrel
            by_cases hlt : k < s.length
            · have hx := fun W => str_at W s k hlt
              have HBK := Lib.hid (HB.out k hlt)
              have HK := Lib.hid (okB_toNat (s.getD k 0))
              have HST : Hid (okB (s.getD k 0) = true → ∀ j, j < k + 1 → okB (s.getD j 0) = true) := Lib.hid (fun e j hj => by
                by_cases ej : j = k
                · rw [ej]; exact e
                · exact ha.out j (by omega))
              generalize okB (s.getD k 0) = q at *
              generalize (s.getD k 0).toNat = y at *
              clear ha
              by_cases hy : 32 ≤ y ∧ y ≠ 127 ∧ y ≠ 47
              · obtain ⟨y1, y2, y3⟩ := hy
                have HG := Lib.hid (HST.out (by rw [HK.out]; exact decide_eq_true ⟨y1, y2, y3⟩))
                have k2 : ((y : Int) == 127) = false := by rw [beq_eq_false_iff_ne]; omega
                have k3 : ((y : Int) == 47) = false := by rw [beq_eq_false_iff_ne]; omega
                clear y2 y3
                go_wp2_with fail
                go_round
                case rel => exact ⟨k + 1, by omega, by go_num, HG⟩
                case measure => simp [intOf]; omega
              · have HF : Hid (nameB s = false) := Lib.hid (HBK.out (by rw [HK.out]; exact decide_eq_false hy))
                by_cases y1 : y < 32
                · clear hy
                  go_wp2_with fail
                  go_ret
                  exact ⟨by rw [HF.out]; rfl, rfl⟩
                · by_cases y2 : y = 127
                  · subst y2
                    clear hy
                    go_wp2_with fail
                    go_ret
                    exact ⟨by rw [HF.out]; rfl, rfl⟩
                  · have y3 : y = 47 := by omega
                    subst y3
                    clear hy y2
                    go_wp2_with fail
                    go_ret
                    exact ⟨by rw [HF.out]; rfl, rfl⟩
            · have HT : Hid (nameB s = true) := Lib.hid (HY.out (fun j hj => ha.out j (by omega)))
              go_wp2_with fail
              go_ret
              exact ⟨by rw [HT.out]; rfl, rfl⟩
set_option maxRecDepth 100000 in
set_option maxHeartbeats 2000000 in
theorem rcheck_any (p : List UInt8) (w : World) (hp : p.length ≤ 4194304) : Calls Tryd.prog 28 #[.string ⟨p.toArray⟩] w fun e w' => e = .returned (.int .i64 (checkN p)) ∧ Below w.heap.size w w' := by
  have HS := Lib.hid (rsplit_any p w hp)
  have hnl := namesL_len p
  have HNM : Hid (∀ k, k < (namesL p).length → ∀ W, Calls Tryd.prog 30 #[.string ⟨((namesL p).getD k []).toArray⟩] W fun e w' => e = .returned (.bool (nameB ((namesL p).getD k []))) ∧ W = w') := Lib.hid (fun k hk W => by
    have hm : (namesL p).getD k [] ∈ namesL p := by rw [show (namesL p).getD k [] = (namesL p)[k] by simp [List.getD, List.getElem?_eq_getElem hk]]; exact List.getElem_mem hk
    have := namesL_short p _ hm
    exact rname_any _ W (by omega))
  have HZ : Hid ((namesL p).length = 0 ↔ p = []) := Lib.hid (by
    constructor
    · intro e
      have := List.length_eq_zero_iff.1 e
      have hj := join_names p
      rw [this] at hj; exact hj.symm
    · rintro rfl; rfl)
  have HC : Hid (¬ 255 < p.length → ¬ 16 < (namesL p).length → checkN p = if p = [] ∨ (namesL p).all nameB = false then 50 else 0) := Lib.hid (fun a b => if_neg (by omega))
  have HC2 : Hid (255 < p.length ∨ 16 < (namesL p).length → checkN p = 2) := Lib.hid (fun a => if_pos a)
  go_enter Tryd.func28, Tryd.ntmps28
  go_wp2_with fail
  refine HS.out.mono ?_
  rintro e w1 ⟨v, rfl, hv, hb⟩
  have V := Lib.hid (ownS_c hv)
  have B := Lib.hid hb
  obtain ⟨a, c, rfl⟩ := ownS_slice hv
  clear hv hb
  generalize namesL p = L at *
  by_cases h1 : 255 < p.length
  · have HN := Lib.hid (HC2.out (Or.inl h1))
    go_wp2_with fail
    go_ret
    exact ⟨by rw [HN.out]; rfl, B.out⟩
  · by_cases h2 : 16 < L.length
    · have HN := Lib.hid (HC2.out (Or.inr h2))
      go_wp2_with fail
      go_ret
      exact ⟨by rw [HN.out]; rfl, B.out⟩
    · have HN := Lib.hid (HC.out h1 h2)
      clear HC HC2
      go_wp2_with fail
      go_loop [4] (fun i => ∃ k : Nat, k ≤ L.length ∧ i = .int .i64 k ∧ Hid (∀ j, j < k → nameB (L.getD j []) = true)) (fun i => L.length - (intOf i).toNat)
      case atStart => exact ⟨0, Nat.zero_le _, rfl, Lib.hid (fun j hj => absurd hj (by omega))⟩
      case round =>
        obtain ⟨k, hk, rfl, ha⟩ := hrel
        by_cases hlt : k < L.length
        · obtain ⟨ba, rfl, _, _, h3⟩ := V.out.at (by omega)
          have hc := h3 k hlt
          have HM := Lib.hid (HNM.out k hlt)
          have HST : Hid (∀ q, nameB (L.getD k []) = q → q = true → ∀ j, j < k + 1 → nameB (L.getD j []) = true) := Lib.hid (fun q h1 h2 j hj => by
            by_cases e : j = k
            · rw [e, h1, h2]
            · exact ha.out j (by omega))
          have HBD : Hid (∀ q, nameB (L.getD k []) = q → q = false → checkN p = 50) := Lib.hid (fun q e1 e2 => by
            rw [HN.out, if_pos (Or.inr ?_)]
            rw [List.all_eq_false]
            refine ⟨L[k], List.getElem_mem hlt, ?_⟩
            rw [show L[k] = L.getD k [] by simp [List.getD, List.getElem?_eq_getElem hlt], e1, e2]
            decide)
          obtain ⟨q, hq⟩ : ∃ q, nameB (L.getD k []) = q := ⟨_, rfl⟩
          rw [hq] at HM
          have HQ := Lib.hid hq
          generalize (⟨(L.getD k []).toArray⟩ : ByteArray) = x at *
          clear h3 hq ha
          go_wp2_with fail
          refine (HM.out _).mono ?_
          rintro e w2 ⟨rfl, rfl⟩
          cases q
          · have HF := Lib.hid (HBD.out _ HQ.out rfl)
            go_wp2_with fail
            go_ret
            exact ⟨by rw [HF.out]; rfl, B.out⟩
          · go_wp2_with fail
            go_round
            case rel => exact ⟨k + 1, by omega, by go_num, Lib.hid (HST.out _ HQ.out rfl)⟩
            case measure => simp [intOf]; omega
        · have hall : Hid (L.all nameB = true) := Lib.hid (by
            rw [List.all_eq_true]
            intro x hx
            obtain ⟨j, hj, rfl⟩ := List.getElem_of_mem hx
            have := ha.out j (by omega)
            rwa [show L.getD j [] = L[j] by simp [List.getD, List.getElem?_eq_getElem hj]] at this)
          by_cases h0 : L.length = 0
          · have HF : Hid (checkN p = 50) := Lib.hid (by rw [HN.out, if_pos (Or.inl (HZ.out.1 h0))])
            have g0 : ((L.length : Int) == 0) = true := by rw [h0]; rfl
            clear h0
            go_wp2_with fail
            go_ret
            exact ⟨by rw [HF.out]; rfl, B.out⟩
          · have HF : Hid (checkN p = 0) := Lib.hid (by
              rw [HN.out, if_neg]
              rintro (e | e)
              · exact h0 (HZ.out.2 e)
              · rw [hall.out] at e; cases e)
            have g0 : ((L.length : Int) == 0) = false := by rw [beq_eq_false_iff_ne]; omega
            clear h0
            go_wp2_with fail
            go_ret
            exact ⟨by rw [HF.out]; rfl, B.out⟩
end Go.Proofs.YtplbcncbljcfmaaDoor
