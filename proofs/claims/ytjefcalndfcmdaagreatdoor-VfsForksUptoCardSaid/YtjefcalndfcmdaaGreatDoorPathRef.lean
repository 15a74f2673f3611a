/- The walk of the reference's Split. -/
import Derived.Test.YtjefcalndfcmdaaGreatDoorVgJL
import Derived.Test.YtjefcalndfcmdaaGreatDoorPathAll
namespace Go.Proofs.YtjefcalndfcmdaaGreatDoor
open Go.RowKit Go.Lib

theorem str_cut (w : World) (x : List UInt8) (f k : Nat) (h1 : f ≤ k) (h2 : k ≤ x.length) : (Instr.slice 9 (.string ⟨x.toArray⟩) (some (.int .i64 (f : Int))) (some (.int .i64 (k : Int))) none).run Tryz.prog w = .ok (.string ⟨((x.drop f).take (k - f)).toArray⟩) w := by
  rw [run_slice_string _ _ _ _ _ _ _ (by kernel_rfl) (by omega) (by omega) (by rw [at_size]; omega)]
  congr 2
  have e1 : (f : Int).toNat = f := by omega
  have e2 : (k : Int).toNat = k := by omega
  rw [e1, e2, extract_list]
/-- The texts cut off so far, and where the next one begins. -/
def CutTo (p : List UInt8) (D : List (List UInt8)) (f k : Nat) : Prop :=
  (k ≤ p.length ∧ f ≤ k ∧ splitL p = D ++ splitL (p.drop f) ∧ ∀ j, f ≤ j → j < k → p.getD j 0 ≠ 47) ∨ (k = p.length + 1 ∧ f ≤ k ∧ D = splitL p)
theorem none47 {p : List UInt8} {f k : Nat} (h : ∀ j, f ≤ j → j < k → p.getD j 0 ≠ 47) (hk : k ≤ p.length) : (47 : UInt8) ∉ (p.drop f).take (k - f) := by
  intro hm
  obtain ⟨i, hi, e⟩ := List.getElem_of_mem hm
  rw [List.length_take, List.length_drop] at hi
  rw [List.getElem_take, List.getElem_drop] at e
  apply h (f + i) (by omega) (by omega)
  rw [← e]
  simp [List.getD, List.getElem?_eq_getElem (show f + i < p.length by omega)]
theorem CutTo.next {p : List UInt8} {D : List (List UInt8)} {f k : Nat} (h : CutTo p D f k) (hk : k < p.length) (h47 : p.getD k 0 ≠ 47) : CutTo p D f (k + 1) := by
  rcases h with ⟨h1, h2, h3, h4⟩ | ⟨h1, _⟩
  · refine Or.inl ⟨by omega, by omega, h3, fun j a b => ?_⟩
    by_cases e : j = k
    · rw [e]; exact h47
    · exact h4 j a (by omega)
  · omega
theorem CutTo.stroke {p : List UInt8} {D : List (List UInt8)} {f k : Nat} (h : CutTo p D f k) (hk : k < p.length) (h47 : p.getD k 0 = 47) : CutTo p (D ++ [(p.drop f).take (k - f)]) (k + 1) (k + 1) := by
  rcases h with ⟨h1, h2, h3, h4⟩ | ⟨h1, _⟩
  · refine Or.inl ⟨by omega, by omega, ?_, fun j a b => by omega⟩
    have e : p.drop f = (p.drop f).take (k - f) ++ 47 :: p.drop (k + 1) := by
      conv => lhs; rw [← List.take_append_drop (k - f) (p.drop f)]
      congr 1
      rw [List.drop_drop, show f + (k - f) = k by omega, List.drop_eq_getElem_cons hk]
      congr 1
      rw [← h47]; simp [List.getD, List.getElem?_eq_getElem hk]
    rw [h3]
    conv => lhs; rw [e, splitL_app (none47 h4 (by omega))]
    simp
  · omega
theorem CutTo.last {p : List UInt8} {D : List (List UInt8)} {f : Nat} (h : CutTo p D f p.length) : CutTo p (D ++ [(p.drop f).take (p.length - f)]) (p.length + 1) (p.length + 1) := by
  rcases h with ⟨h1, h2, h3, h4⟩ | ⟨h1, _⟩
  · refine Or.inr ⟨rfl, Nat.le_refl _, ?_⟩
    have e : (p.drop f).take (p.length - f) = p.drop f := List.take_of_length_le (by rw [List.length_drop]; omega)
    have hn := none47 h4 (Nat.le_refl _)
    rw [e] at hn ⊢
    rw [h3, splitL_none hn]
  · omega
theorem CutTo.le {p : List UInt8} {D : List (List UInt8)} {f k : Nat} (h : CutTo p D f k) : f ≤ k ∧ k ≤ p.length + 1 := by
  rcases h with ⟨h1, h2, _⟩ | ⟨h1, h2, _⟩ <;> omega
theorem CutTo.len {p : List UInt8} {D : List (List UInt8)} {f k : Nat} (h : CutTo p D f k) : D.length ≤ p.length + 1 := by
  have := splitL_len p
  have hc := List.count_le_length (a := (47 : UInt8)) (l := p)
  rcases h with ⟨_, _, h3, _⟩ | ⟨_, _, h3⟩
  · have := congrArg List.length h3
    rw [List.length_append] at this; omega
  · rw [h3]; omega
set_option maxRecDepth 100000 in
set_option maxHeartbeats 2000000 in
theorem rsplit_any (p : List UInt8) (w : World) (hp : p.length ≤ 4194304) : Calls Tryz.prog 64 #[.string ⟨p.toArray⟩] w fun e w' => ∃ v, e = .returned v ∧ OwnS w' w.heap.size v (namesL p) ∧ Below w.heap.size w w' := by
  obtain ⟨i0, hi, hz0, hz1, hz2⟩ := info_parts Tryz.info9s
  by_cases h0 : p = []
  · subst h0
    have HR := Lib.hid (Below.refl w.heap.size w)
    go_enter Tryz.func64, Tryz.ntmps64
    go_wp2_with fail
    go_ret
    exact ⟨_, rfl, ownS_nil _ _, HR.out⟩
  · have g1 : p.isEmpty = false := by cases p; exact absurd rfl h0; rfl
    have HNL : Hid (namesL p = splitL p) := Lib.hid (by unfold namesL; rw [if_neg h0])
    have HO := Lib.hid (ownS_empty w)
    have HB := Lib.hid ((Below.refl w.heap.size w).alloc (Nat.le_refl _) (.cells #[] 9))
    have HC0 : Hid (CutTo p [] 0 0) := Lib.hid (Or.inl ⟨Nat.zero_le _, Nat.le_refl _, rfl, fun j _ hj => absurd hj (by omega)⟩)
    clear h0
    go_enter Tryz.func64, Tryz.ntmps64
    go_wp2_with fail
    generalize w.alloc (.cells #[] 9) = w1 at *
    go_loopw [3, 4, 5] (fun o f i wr => ∃ (k g : Nat) (D : List (List UInt8)), i = .int .i64 k ∧ f = .int .i64 g ∧ Hid (CutTo p D g k) ∧ OwnS wr w.heap.size o D ∧ Below w.heap.size w wr) (fun _ _ i _ => p.length + 2 - (intOf i).toNat)
    case atStart => exact ⟨0, 0, [], rfl, rfl, HC0, HO.out, HB.out⟩
    case round =>
      obtain ⟨k, g, D, rfl, rfl, hct, ho, hb⟩ := hrel
      have O := Lib.hid ho
      have B := Lib.hid hb
      have hsz := hb.size
      obtain ⟨hgk, hkl⟩ := hct.out.le
      have hdl := hct.out.len
      obtain ⟨oa, oc, rfl⟩ := ownS_slice ho
      clear ho hb HO HB HC0
      by_cases hlast : k = p.length + 1
      · have HD : Hid (D = namesL p) := Lib.hid (by
          rcases hct.out with ⟨h1, _⟩ | ⟨_, _, h3⟩
          · omega
          · rw [h3, HNL.out])
        go_wp2_with fail
        go_ret
        exact ⟨_, rfl, by rw [← HD.out]; exact O.out, B.out⟩
      · by_cases hk : k < p.length
        · have hx := fun W => str_at W p k hk
          have ge : ((k : Int) == (p.length : Int)) = false := by rw [beq_eq_false_iff_ne]; omega
          by_cases h47 : p.getD k 0 = 47
          · have HN := Lib.hid (hct.out.stroke hk h47)
            have hcu := fun W => str_cut W p g k hgk (by omega)
            rw [h47] at hx
            generalize (p.drop g).take (k - g) = x at *
            clear h47 hlast
            go_wp2_with (at_builtin; refine wpList_own_src _ rfl _ _ 56 56 rfl w.heap.size 9 i0 (.string ByteArray.empty) 1 16 Tryz.underlying56 hi hz0 hz1 hz2 rfl (by decide) _ _ _ rfl (World.ownsRow.alloc O.out _) _ 1 [.string ⟨x.toArray⟩] rfl (srcS_one _ _) ?c13 ?c14 ?c15 ?_)
            case c13 => unfold maxLen; omega
            case c14 => omega
            case c15 => simp; omega
            intro v4 w4 hown4 hg4
            have HO4 := Lib.hid (ownS_push hown4)
            have HB4 := Lib.hid ((B.out.alloc (by omega) _).grown hg4.gb (by simp; omega) (fun j hj => (World.ownsRow.lt O.out j hj).1))
            clear hown4 hg4
            go_wp2_with fail
            go_roundw
            case rel => exact ⟨k + 1, k + 1, D ++ [x], by go_num, by go_num, HN, HO4.out, HB4.out⟩
            case measure => simp [intOf]; omega
          · have HN := Lib.hid (hct.out.next hk h47)
            have g4 : (((p.getD k 0).toNat : Int) == 47) = false := by
              rw [beq_eq_false_iff_ne]; intro e; exact h47 (UInt8.toNat_inj.1 (by rw [show (47 : UInt8).toNat = 47 from rfl]; omega))
            generalize (p.getD k 0).toNat = y at *
            clear h47 hlast
            go_wp2_with fail
            go_roundw
            case rel => exact ⟨k + 1, g, D, by go_num, rfl, HN, O.out, B.out⟩
            case measure => simp [intOf]; omega
        · have hkp : k = p.length := by omega
          have HN : Hid (CutTo p (D ++ [(p.drop g).take (k - g)]) (k + 1) (k + 1)) := Lib.hid (by
            rw [hkp]
            have := hct.out
            rw [hkp] at this
            exact this.last)
          have hcu := fun W => str_cut W p g k hgk (by omega)
          have ge : ((k : Int) == (p.length : Int)) = true := by rw [hkp]; simp
          have hle : k ≤ p.length := by omega
          generalize (p.drop g).take (k - g) = x at *
          clear hlast hkp
          go_wp2_with (at_builtin; refine wpList_own_src _ rfl _ _ 56 56 rfl w.heap.size 9 i0 (.string ByteArray.empty) 1 16 Tryz.underlying56 hi hz0 hz1 hz2 rfl (by decide) _ _ _ rfl (World.ownsRow.alloc O.out _) _ 1 [.string ⟨x.toArray⟩] rfl (srcS_one _ _) ?c16 ?c17 ?c18 ?_)
          case c16 => unfold maxLen; omega
          case c17 => omega
          case c18 => simp; omega
          intro v4 w4 hown4 hg4
          have HO4 := Lib.hid (ownS_push hown4)
          have HB4 := Lib.hid ((B.out.alloc (by omega) _).grown hg4.gb (by simp; omega) (fun j hj => (World.ownsRow.lt O.out j hj).1))
          clear hown4 hg4
          go_wp2_with fail
          go_roundw
          case rel => exact ⟨k + 1, k + 1, D ++ [x], by go_num, by go_num, HN, HO4.out, HB4.out⟩
          case measure => simp [intOf]; omega
theorem nameB_bad {s : List UInt8} {k : Nat} (hk : k < s.length) (h : okB (s.getD k 0) = false) : nameB s = false := by
  have : s.all okB = false := by
    rw [List.all_eq_false]
    refine ⟨s[k], List.getElem_mem hk, ?_⟩
    rw [show s.getD k 0 = s[k] by simp [List.getD, List.getElem?_eq_getElem hk]] at h
    rw [h]; decide
  unfold nameB; rw [this, Bool.and_false]
theorem nameB_all {s : List UInt8} (h : 1 ≤ s.length ∧ s.length ≤ 64 ∧ s ≠ [46] ∧ s ≠ [46, 46]) (h2 : ∀ j, j < s.length → okB (s.getD j 0) = true) : nameB s = true := by
  rw [nameB_yes h, List.all_eq_true]
  intro x hx
  obtain ⟨j, hj, rfl⟩ := List.getElem_of_mem hx
  have := h2 j hj
  rwa [show s.getD j 0 = s[j] by simp [List.getD, List.getElem?_eq_getElem hj]] at this
theorem okB_toNat (c : UInt8) : okB c = decide (32 ≤ c.toNat ∧ c.toNat ≠ 127 ∧ c.toNat ≠ 47) := by
  unfold okB
  rw [Bool.eq_iff_iff]
  simp only [decide_eq_true_eq]
  rw [show (c ≠ 47) ↔ c.toNat ≠ 47 from ⟨fun h e => h (UInt8.toNat_inj.1 e), fun h e => h (by rw [e]; rfl)⟩]
set_option maxRecDepth 100000 in
set_option maxHeartbeats 2000000 in
theorem rname_any (s : List UInt8) (w : World) (hs : s.length ≤ 140737488355328) : Calls Tryz.prog 65 #[.string ⟨s.toArray⟩] w fun e w' => e = .returned (.bool (nameB s)) ∧ w = w' := by
  by_cases h1 : s = []
  · subst h1
    go_enter Tryz.func65, Tryz.ntmps65
    go_wp2_with fail
    go_ret
    exact ⟨rfl, rfl⟩
  · by_cases h3 : s = [46]
    · subst h3
      go_enter Tryz.func65, Tryz.ntmps65
      go_wp2_with fail
      go_ret
      exact ⟨rfl, rfl⟩
    · by_cases h4 : s = [46, 46]
      · subst h4
        go_enter Tryz.func65, Tryz.ntmps65
        go_wp2_with fail
        go_ret
        exact ⟨rfl, rfl⟩
      · have g1 : s.isEmpty = false := by cases s; exact absurd rfl h1; rfl
        have g3 : (s == [46]) = false := by rw [beq_eq_false_iff_ne]; exact h3
        have g4 : (s == [46, 46]) = false := by rw [beq_eq_false_iff_ne]; exact h4
        have hpos := List.length_pos_iff.2 h1
        by_cases h2 : 64 < s.length
        · have HN : Hid (nameB s = false) := Lib.hid (nameB_no (by omega))
          clear h1 h3 h4
          go_enter Tryz.func65, Tryz.ntmps65
          go_wp2_with fail
          go_ret
          exact ⟨by rw [HN.out]; rfl, rfl⟩
        · have HY := Lib.hid (nameB_all (s := s) ⟨by omega, by omega, h3, h4⟩)
          have HB := Lib.hid (fun k => nameB_bad (s := s) (k := k))
          clear h1 h3 h4
          go_enter Tryz.func65, Tryz.ntmps65
          go_wp2_with fail
          go_loop [3] (fun i => ∃ k : Nat, k ≤ s.length ∧ i = .int .i64 k ∧ Hid (∀ j, j < k → okB (s.getD j 0) = true)) (fun i => s.length - (intOf i).toNat)
          case atStart => exact ⟨0, Nat.zero_le _, rfl, Lib.hid (fun j hj => absurd hj (by omega))⟩
          case round =>
            obtain ⟨k, hk, rfl, ha⟩ := hrel
            by_cases hlt : k < s.length
            · have hx := fun W => str_at W s k hlt
              have HBK := Lib.hid (HB.out k hlt)
              have HK := Lib.hid (okB_toNat (s.getD k 0))
              have HST : Hid (okB (s.getD k 0) = true → ∀ j, j < k + 1 → okB (s.getD j 0) = true) := Lib.hid (fun e j hj => by
                by_cases ej : j = k
                · rw [ej]; exact e
                · exact ha.out j (by omega))
              generalize okB (s.getD k 0) = q at *
              generalize (s.getD k 0).toNat = y at *
              clear ha
              by_cases hy : 32 ≤ y ∧ y ≠ 127 ∧ y ≠ 47
              · obtain ⟨y1, y2, y3⟩ := hy
                have HG := Lib.hid (HST.out (by rw [HK.out]; exact decide_eq_true ⟨y1, y2, y3⟩))
                have k2 : ((y : Int) == 127) = false := by rw [beq_eq_false_iff_ne]; omega
                have k3 : ((y : Int) == 47) = false := by rw [beq_eq_false_iff_ne]; omega
                clear y2 y3
                go_wp2_with fail
                go_round
                case rel => exact ⟨k + 1, by omega, by go_num, HG⟩
                case measure => simp [intOf]; omega
              · have HF : Hid (nameB s = false) := Lib.hid (HBK.out (by rw [HK.out]; exact decide_eq_false hy))
                by_cases y1 : y < 32
                · clear hy
                  go_wp2_with fail
                  go_ret
                  exact ⟨by rw [HF.out]; rfl, rfl⟩
                · by_cases y2 : y = 127
                  · subst y2
                    clear hy
                    go_wp2_with fail
                    go_ret
                    exact ⟨by rw [HF.out]; rfl, rfl⟩
                  · have y3 : y = 47 := by omega
                    subst y3
                    clear hy y2
                    go_wp2_with fail
                    go_ret
                    exact ⟨by rw [HF.out]; rfl, rfl⟩
            · have HT : Hid (nameB s = true) := Lib.hid (HY.out (fun j hj => ha.out j (by omega)))
              go_wp2_with fail
              go_ret
              exact ⟨by rw [HT.out]; rfl, rfl⟩
set_option maxRecDepth 100000 in
set_option maxHeartbeats 2000000 in
theorem rcheck_any (p : List UInt8) (w : World) (hp : p.length ≤ 4194304) : Calls Tryz.prog 47 #[.string ⟨p.toArray⟩] w fun e w' => e = .returned (.int .i64 (checkN p)) ∧ Below w.heap.size w w' := by
  have HS := Lib.hid (rsplit_any p w hp)
  have hnl := namesL_len p
  have HNM : Hid (∀ k, k < (namesL p).length → ∀ W, Calls Tryz.prog 65 #[.string ⟨((namesL p).getD k []).toArray⟩] W fun e w' => e = .returned (.bool (nameB ((namesL p).getD k []))) ∧ W = w') := Lib.hid (fun k hk W => by
    have hm : (namesL p).getD k [] ∈ namesL p := by rw [show (namesL p).getD k [] = (namesL p)[k] by simp [List.getD, List.getElem?_eq_getElem hk]]; exact List.getElem_mem hk
    have := namesL_short p _ hm
    exact rname_any _ W (by omega))
  have HZ : Hid ((namesL p).length = 0 ↔ p = []) := Lib.hid (by
    constructor
    · intro e
      have := List.length_eq_zero_iff.1 e
      have hj := join_names p
      rw [this] at hj; exact hj.symm
    · rintro rfl; rfl)
  have HC : Hid (¬ 255 < p.length → ¬ 16 < (namesL p).length → checkN p = if p = [] ∨ (namesL p).all nameB = false then 50 else 0) := Lib.hid (fun a b => if_neg (by omega))
  have HC2 : Hid (255 < p.length ∨ 16 < (namesL p).length → checkN p = 2) := Lib.hid (fun a => if_pos a)
  go_enter Tryz.func47, Tryz.ntmps47
  go_wp2_with fail
  refine HS.out.mono ?_
  rintro e w1 ⟨v, rfl, hv, hb⟩
  have V := Lib.hid (ownS_c hv)
  have B := Lib.hid hb
  obtain ⟨a, c, rfl⟩ := ownS_slice hv
  clear hv hb
  generalize namesL p = L at *
  by_cases h1 : 255 < p.length
  · have HN := Lib.hid (HC2.out (Or.inl h1))
    go_wp2_with fail
    go_ret
    exact ⟨by rw [HN.out]; rfl, B.out⟩
  · by_cases h2 : 16 < L.length
    · have HN := Lib.hid (HC2.out (Or.inr h2))
      go_wp2_with fail
      go_ret
      exact ⟨by rw [HN.out]; rfl, B.out⟩
    · have HN := Lib.hid (HC.out h1 h2)
      clear HC HC2
      go_wp2_with fail
      go_loop [4] (fun i => ∃ k : Nat, k ≤ L.length ∧ i = .int .i64 k ∧ Hid (∀ j, j < k → nameB (L.getD j []) = true)) (fun i => L.length - (intOf i).toNat)
      case atStart => exact ⟨0, Nat.zero_le _, rfl, Lib.hid (fun j hj => absurd hj (by omega))⟩
      case round =>
        obtain ⟨k, hk, rfl, ha⟩ := hrel
        by_cases hlt : k < L.length
        · obtain ⟨g9, o9, rfl, _, _, _, h3⟩ := V.out.at (by omega)
          have hc := h3 k hlt
          have HM := Lib.hid (HNM.out k hlt)
          have HST : Hid (∀ q, nameB (L.getD k []) = q → q = true → ∀ j, j < k + 1 → nameB (L.getD j []) = true) := Lib.hid (fun q h1 h2 j hj => by
            by_cases e : j = k
            · rw [e, h1, h2]
            · exact ha.out j (by omega))
          have HBD : Hid (∀ q, nameB (L.getD k []) = q → q = false → checkN p = 50) := Lib.hid (fun q e1 e2 => by
            rw [HN.out, if_pos (Or.inr ?_)]
            rw [List.all_eq_false]
            refine ⟨L[k], List.getElem_mem hlt, ?_⟩
            rw [show L[k] = L.getD k [] by simp [List.getD, List.getElem?_eq_getElem hlt], e1, e2]
            decide)
          obtain ⟨q, hq⟩ : ∃ q, nameB (L.getD k []) = q := ⟨_, rfl⟩
          rw [hq] at HM
          have HQ := Lib.hid hq
          generalize (⟨(L.getD k []).toArray⟩ : ByteArray) = x at *
          clear h3 hq ha
          go_wp2_with fail
          refine (HM.out _).mono ?_
          rintro e w2 ⟨rfl, rfl⟩
          cases q
          · have HF := Lib.hid (HBD.out _ HQ.out rfl)
            go_wp2_with fail
            go_ret
            exact ⟨by rw [HF.out]; rfl, B.out⟩
          · go_wp2_with fail
            go_round
            case rel => exact ⟨k + 1, by omega, by go_num, Lib.hid (HST.out _ HQ.out rfl)⟩
            case measure => simp [intOf]; omega
        · have hall : Hid (L.all nameB = true) := Lib.hid (by
            rw [List.all_eq_true]
            intro x hx
            obtain ⟨j, hj, rfl⟩ := List.getElem_of_mem hx
            have := ha.out j (by omega)
            rwa [show L.getD j [] = L[j] by simp [List.getD, List.getElem?_eq_getElem hj]] at this)
          by_cases h0 : L.length = 0
          · have HF : Hid (checkN p = 50) := Lib.hid (by rw [HN.out, if_pos (Or.inl (HZ.out.1 h0))])
            have g0 : ((L.length : Int) == 0) = true := by rw [h0]; rfl
            clear h0
            go_wp2_with fail
            go_ret
            exact ⟨by rw [HF.out]; rfl, B.out⟩
          · have HF : Hid (checkN p = 0) := Lib.hid (by
              rw [HN.out, if_neg]
              rintro (e | e)
              · exact h0 (HZ.out.2 e)
              · rw [hall.out] at e; cases e)
            have g0 : ((L.length : Int) == 0) = false := by rw [beq_eq_false_iff_ne]; omega
            clear h0
            go_wp2_with fail
            go_ret
            exact ⟨by rw [HF.out]; rfl, B.out⟩
end Go.Proofs.YtjefcalndfcmdaaGreatDoor
