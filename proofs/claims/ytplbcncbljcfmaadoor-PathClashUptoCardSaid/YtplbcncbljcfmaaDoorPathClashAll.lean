/- The walk of the law PathClash. -/
import Derived.Test.YtplbcncbljcfmaaDoorPathSortedAll
import Derived.Deep.RegionHeld3
namespace Go.Proofs.YtplbcncbljcfmaaDoor
open Go.RowKit Go.Lib

theorem below_tr' {w0 w w' : World} (h : Below w0.heap.size w0 w) (h2 : Below w.heap.size w w') : Below w0.heap.size w0 w' := h.trans (h2.mono h.size)
/-- What is said behind the rows. -/
theorem deep_take {l : List Txt} {x c : Txt} {k : Nat} (hk : k < l.length) : (l.take (k + 1)).all (deepB x c) = ((l.take k).all (deepB x c) && deepB x c (l.getD k [])) := all_take hk
set_option maxRecDepth 100000 in
set_option maxHeartbeats 8000000 in
theorem clash_law (S : Nat → Prop) (v : Value) (l : List Txt) (w : World) (hS : ∀ k, S k → k < w.heap.size) (h : StrsC S w v l) (hl : l.length ≤ 4194304) (hx : ∀ x ∈ l, x.length ≤ 4194304) (hE : PEnv w) :
    Calls Tryd.prog 12 #[v] w (TrueP w) := by
  unfold TrueP
  have HE := Lib.hid hE
  have HV := Lib.hid (fun W (hb : Below w.heap.size w W) => valid_any S v l W (fun k hk => Nat.lt_of_lt_of_le (hS k hk) hb.size) (h.kept (fun k hk => ⟨hk, hb.block k (hS k hk)⟩)) hl hx (hE.on hb))
  have hvs := valid_short (l := l)
  have hvl := Nat.le_trans (valid_len l) hl
  have HCL := Lib.hid (fun B v W (h : OwnS W B v (validL l)) => clash_walk B v (validL l) W h hvl (fun x hx => by have := (hvs x hx).1; omega))
  have HVJ : Hid (∀ j, j < (validL l).length → ((validL l).getD j []).length ≤ 255) := Lib.hid (fun j hj => by rw [getD_at hj]; exact (hvs _ (List.getElem_mem hj)).1)
  have HCO := Lib.hid (fun S v W (h : StrsC S W v (validL l)) => common_any S v (validL l) W h hvl (fun j hj => by have := HVJ.out j hj; omega))
  have HCA := Lib.hid (fun a b => clash_any (l := validL l) (a := a) (b := b) (fun x hx => (hvs x hx).2))
  have HDA : Hid (0 < (validL l).length → (∀ j, j < (validL l).length → underB ((validL l).getD j []) (commonN (validL l)) = true) ∧ (validL l).all (deepB ((validL l).getD 0 []) (commonN (validL l))) = false) := Lib.hid (fun hpos => by
    have hne : ∀ p ∈ validL l, p ≠ [] := fun p hp => (hvs p hp).2
    have hd := commonN_deep (List.length_pos_iff.1 hpos) hne
    refine ⟨fun j hj => hd.all _ (by rw [getD_at hj]; exact List.getElem_mem hj), ?_⟩
    have hm : ∀ p ∈ validL l, ∀ q ∈ namesL p, q ≠ [] := fun p hp q hq => nameB_ne (List.all_eq_true.1 (checkN_ok (valid_mem hp).2).2.1 q hq)
    generalize commonN (validL l) = c at *
    cases e : validL l with
    | nil => rw [e] at hpos; simp at hpos
    | cons x r =>
      rw [e] at hne hd hm
      exact deep_none hne (hm x List.mem_cons_self) hd)
  have HCM : Hid ((commonN (validL l)).length ≤ 255) := Lib.hid (by
    unfold commonN
    split
    · simp
    · rename_i hne
      have hpos : 0 < (validL l).length := List.length_pos_iff.2 hne
      exact Nat.le_trans (par_parent _).le (Nat.le_trans (lcpF_len _ _) (HVJ.out 0 hpos)))
  have hvl2 := hvl
  generalize commonN (validL l) = cm at *
  generalize validL l = L at *
  clear hS h hl hx hE hvs hvl
  go_enter Tryd.func12, Tryd.ntmps12
  go_wp2_with fail
  refine (awake5_any _ HE.out).mono ?_
  rintro e w1 ⟨rfl, hb1⟩
  have B1 := Lib.hid hb1
  clear hb1
  go_wp2_with fail
  refine (HV.out _ B1.out).mono ?_
  rintro e w2 ⟨v2, rfl, hv2, hb2⟩
  have B2 := Lib.hid (B1.out.trans (hb2.mono B1.out.size))
  have O2 := Lib.hid hv2
  have C2 := Lib.hid (ownS_c hv2)
  obtain ⟨a, c, rfl⟩ := ownS_slice hv2
  clear hv2 hb2
  go_wp2_with fail
  go_loopw [4, 22] (fun t i wr => ∃ (k : Nat) (q : Bool), k ≤ L.length ∧ i = .int .i64 k ∧ t = .bool q ∧ Hid (q = anyAll L k) ∧ Hid (Drew w2 wr)) (fun _ i _ => L.length - (intOf i).toNat)
  case atStart => exact ⟨0, false, Nat.zero_le _, rfl, rfl, Lib.hid rfl, Lib.hid (Drew.refl _)⟩
  case round =>
    obtain ⟨i, q, hi, rfl, rfl, hq, hd⟩ := hrel
    obtain ⟨wo, hwo⟩ : ∃ wo : World, wo = wr := ⟨_, rfl⟩
    clear hwo
    by_cases hlt : i < L.length
    · have HNX : Hid (anyAll L (i + 1) = (anyAll L i || anyRow L i L.length)) := Lib.hid (anyAll_succ L i)
      go_wp2_with fail
      go_loopw [4, 27] (fun t j wq => ∃ (k : Nat) (q : Bool), k ≤ L.length ∧ j = .int .i64 k ∧ t = .bool q ∧ Hid (q = (anyAll L i || anyRow L i k)) ∧ Hid (Drew w2 wq)) (fun _ j _ => L.length - (intOf j).toNat)
      case atStart => exact ⟨0, q, Nat.zero_le _, rfl, rfl, Lib.hid (by rw [hq.out]; unfold anyRow; simp), hd⟩
      case round =>
        obtain ⟨k, q, hk, rfl, rfl, hq, hd⟩ := hrel
        by_cases hlk : k < L.length
        · have HNR : Hid (anyRow L i (k + 1) = (anyRow L i k || (decide (i ≠ k) && relB (L.getD i []) (L.getD k [])))) := Lib.hid (anyRow_succ L i k)
          obtain ⟨b, rfl, _, _, hb3⟩ := C2.out.at (by omega)
          have HC1 := Lib.hid (fun W (h : Drew w2 W) => (h.cell _).trans (hb3 i hlt))
          have HC2 := Lib.hid (fun W (h : Drew w2 W) => (h.cell _).trans (hb3 k hlk))
          have HU := Lib.hid (under_any (L.getD i []) (L.getD k []))
          generalize L.getD i [] = x at *
          generalize L.getD k [] = y at *
          have HR : Hid (∀ e u, (x == y) = e → underB x y = u → relB x y = (e || u)) := Lib.hid (fun e u h1 h2 => by unfold relB; rw [h1, h2])
          obtain ⟨r, hr⟩ : ∃ r, (x == y) = r := ⟨_, rfl⟩
          obtain ⟨u, hu⟩ : ∃ u, underB x y = u := ⟨_, rfl⟩
          have HR2 := Lib.hid (HR.out r u hr hu)
          rw [hu] at HU
          clear HR hu hb3
          cases q
          · by_cases hik : i = k
            · have HQ : Hid (false = (anyAll L i || anyRow L i (k + 1))) := Lib.hid (by rw [HNR.out]; have := hq.out; simp [hik] at this ⊢; exact this)
              have g1 : (i != k) = false := by simpa using hik
              have g2 : ((i : Int) != (k : Int)) = false := by rw [bne_eq_false_iff_eq, hik]
              clear hik
              go_wp2_with fail
              go_quiet (fail)
              go_wp2_with fail
              go_roundw
              case rel => exact ⟨k + 1, false, by omega, by go_num, rfl, HQ, Lib.hid (hd.out.trans ⟨nq, rfl⟩)⟩
              case measure => simp [intOf]; omega
            · have HQ : Hid ((r || u) = (anyAll L i || anyRow L i (k + 1))) := Lib.hid (by rw [HNR.out, HR2.out]; have := hq.out; simp [hik] at this ⊢; simp [this])
              have g1 : (i != k) = true := by simpa using hik
              have g2 : ((i : Int) != (k : Int)) = true := by rw [bne_iff_ne]; omega
              have c1 := HC1.out wr hd.out
              have c2 := HC2.out wr hd.out
              clear hik
              cases r
              · go_wp2_with fail
                go_quiet ((go_at_call 35; exact quiet_l (HU.out _)))
                go_wp2_with fail
                go_roundw
                case rel => exact ⟨k + 1, u, by omega, by go_num, rfl, Lib.hid (by rw [← HQ.out]; rfl), Lib.hid (hd.out.trans ⟨nq, rfl⟩)⟩
                case measure => simp [intOf]; omega
              · go_wp2_with fail
                go_quiet (fail)
                go_wp2_with fail
                go_roundw
                case rel => exact ⟨k + 1, true, by omega, by go_num, rfl, Lib.hid (by rw [← HQ.out]; rfl), Lib.hid (hd.out.trans ⟨nq, rfl⟩)⟩
                case measure => simp [intOf]; omega
          · have HQ : Hid (true = (anyAll L i || anyRow L i (k + 1))) := Lib.hid (by rw [HNR.out]; have := hq.out; rw [← Bool.or_assoc, ← this]; rfl)
            go_wp2_with fail
            go_quiet (fail)
            go_wp2_with fail
            go_roundw
            case rel => exact ⟨k + 1, true, by omega, by go_num, rfl, HQ, Lib.hid (hd.out.trans ⟨nq, rfl⟩)⟩
            case measure => simp [intOf]; omega
        · have hkl : k = L.length := by omega
          have HQ : Hid (q = anyAll L (i + 1)) := Lib.hid (by rw [hq.out, hkl, HNX.out])
          clear hkl
          go_wp2_with fail
          go_roundw
          case rel => exact ⟨i + 1, q, by omega, by go_num, rfl, HQ, hd⟩
          case measure => simp [intOf]; omega
    · have hkl : i = L.length := by omega
      have HQ : Hid (q = anyAll L L.length) := Lib.hid (by rw [hq.out, hkl])
      have hwb := hd.out.below w2.heap.size
      have OW : Hid (OwnS wr w1.heap.size (.slice a L.length c) L) := Lib.hid (own_below O2.out (fun j _ h2 => hwb.block j h2))
      have BW := Lib.hid (B2.out.trans (hd.out.below w.heap.size))
      have hsw := hwb.size
      clear hkl hwb hq
      go_wp2_with fail
      refine (HCL.out _ _ _ OW.out).mono ?_
      rintro e w3 ⟨x, y, rfl, hcl, hb3⟩
      have B3 := Lib.hid (BW.out.trans (hb3.mono BW.out.size))
      have C3 := Lib.hid (C2.out.kept (S' := fun k => w1.heap.size ≤ k ∧ k < w2.heap.size) (w' := w3) (fun k hk => ⟨hk, (hb3.block k (Nat.lt_of_lt_of_le hk.2 hsw)).trans (hd.out.below w2.heap.size |>.block k hk.2)⟩))
      obtain ⟨hc1, hc2⟩ := HCA.out x y hcl
      rw [← HQ.out] at hc1
      subst hc1
      have hs3 : w2.heap.size ≤ w3.heap.size := Nat.le_trans hsw hb3.size
      have HU := Lib.hid (under_any x y)
      have HUT := Lib.hid hc2
      clear hcl hb3 hc2 hsw HQ
      have key : x = [] ∨ (x ≠ [] ∧ x = y) ∨ (x ≠ [] ∧ x ≠ y) := by
        by_cases h1 : x = []
        · exact Or.inl h1
        · by_cases h2 : x = y
          · exact Or.inr (Or.inl ⟨h1, h2⟩)
          · exact Or.inr (Or.inr ⟨h1, h2⟩)
      obtain ⟨d, hdd⟩ : ∃ d, decide (0 < L.length) = d := ⟨_, rfl⟩
      have HD := Lib.hid hdd
      rcases key with rfl | ⟨h1, rfl⟩ | ⟨h1, h2⟩
      all_goals
        first
          | (have g1 : decide ((([] : Txt)) ≠ []) = false := by simp
             rw [g1]
             clear g1
             go_wp2_with fail
             refine (HCO.out _ _ _ C3.out).mono ?_)
          | (have g1 : x.isEmpty = false := by cases x; exact absurd rfl h1; rfl
             have g0 : decide (x ≠ []) = true := decide_eq_true h1
             rw [g0]
             clear g0 h1
             go_wp2_with fail
             refine (HCO.out _ _ _ C3.out).mono ?_)
          | (have g1 : x.isEmpty = false := by cases x; exact absurd rfl h1; rfl
             have g0 : decide (x ≠ []) = true := decide_eq_true h1
             have g2 : (x == y) = false := by rw [beq_eq_false_iff_ne]; exact h2
             have hu := HUT.out h1 h2
             rw [hu] at HU
             rw [g0]
             clear g0 h1 h2 hu
             go_wp2_with fail
             refine (HU.out _).mono ?_
             rintro e w3' ⟨rfl, rfl⟩
             go_wp2_with fail
             refine (HCO.out _ _ _ C3.out).mono ?_)
      all_goals
        rintro e w4 ⟨rfl, hdr⟩
        have B4 := Lib.hid (B3.out.trans (Drew.below hdr w.heap.size))
        have C4 := Lib.hid (C3.out.kept (S' := fun k => w1.heap.size ≤ k ∧ k < w2.heap.size) (w' := w4) (fun k hk => ⟨hk, (Drew.below hdr w2.heap.size).block k hk.2⟩))
        have hs4 : w2.heap.size ≤ w4.heap.size := Nat.le_trans hs3 (Drew.below hdr w3.heap.size).size
        clear hdr
        go_wp2_with fail
        go_loopw [10, 90] (fun t i wr => ∃ (k : Nat) (q : Bool), k ≤ L.length ∧ i = .int .i64 k ∧ t = .bool q ∧ Hid (0 < L.length → q = (L.take k).all (deepB (L.getD 0 []) cm)) ∧ Hid (L.length = 0 → q = false) ∧ Hid (StrsC (fun k => w1.heap.size ≤ k ∧ k < w2.heap.size) wr (.slice a L.length c) L) ∧ Hid (Below w.heap.size w wr) ∧ Hid (w2.heap.size ≤ wr.heap.size)) (fun _ i _ => L.length - (intOf i).toNat)
        case atStart => exact ⟨0, d, Nat.zero_le _, rfl, rfl, Lib.hid (fun h => by rw [← HD.out]; simp [h]), Lib.hid (fun h => by rw [← HD.out]; simp [h]), C4, B4, Lib.hid hs4⟩
        case round =>
          obtain ⟨k, q, hk, rfl, rfl, hq, hq0, CW, BV, hsw⟩ := hrel
          by_cases hlt : k < L.length
          · have hpos : 0 < L.length := by omega
            have hqq := hq.out hpos
            obtain ⟨b, rfl, hbS, _, hb3⟩ := CW.out.at hpos
            have c1 := hb3 k hlt
            have c0 := hb3 0 hpos
            rw [add_none] at c0
            have hun := (HDA.out hpos).1 k hlt
            have hnq := deep_take (x := L.getD 0 []) (c := cm) hlt
            have hx1 := HVJ.out k hlt
            have hx0 := HVJ.out 0 hpos
            have HUP := Lib.hid (under_any (L.getD k []) cm)
            rw [hun] at HUP
            rw [← hqq] at hnq
            have HNQ := Lib.hid hnq
            clear hqq hnq hun
            generalize L.getD k [] = p at *
            generalize L.getD 0 [] = x0 at *
            have HSP1 := Lib.hid (fun W (hb : Below wr.heap.size wr W) => split_any p W (by omega) (HE.out.on (BV.out.trans (hb.mono BV.out.size))))
            have HSP2 := Lib.hid (fun W (hb : Below wr.heap.size wr W) => split_any x0 W (by omega) (HE.out.on (BV.out.trans (hb.mono BV.out.size))))
            have HSP3 := Lib.hid (fun W (hb : Below wr.heap.size wr W) => split_any cm W (by have := HCM.out; omega) (HE.out.on (BV.out.trans (hb.mono BV.out.size))))
            have HDB : Hid (deepB x0 cm p = (decide ((namesL cm).length + 1 < (namesL p).length) && (decide ((namesL cm).length + 1 < (namesL x0).length) && ((namesL p).getD (namesL cm).length [] == (namesL x0).getD (namesL cm).length [])))) := Lib.hid rfl
            have hln := namesL_len cm
            have hcm := HCM.out
            have hnn : (namesL cm).length ≤ 300 := by omega
            have HF : Hid (∀ w', Below wr.heap.size wr w' → w'.cell? b = some (.string ⟨x0.toArray⟩) ∧ Hid (Below wr.heap.size wr w')) := Lib.hid (fun w' hb => ⟨(hb.cell (p := b) (Nat.lt_of_lt_of_le hbS.2 hsw.out)).trans c0, Lib.hid hb⟩)
            have HP : Hid (∀ w', (w'.cell? b = some (.string ⟨x0.toArray⟩) ∧ Hid (Below wr.heap.size wr w')) → Below wr.heap.size wr w') := Lib.hid (fun w' h => h.2.out)
            have HBK : Hid (∀ w', Below wr.heap.size wr w' → StrsC (fun k => w1.heap.size ≤ k ∧ k < w2.heap.size) w' (.slice (some b) L.length c) L) := Lib.hid (fun w' hb => CW.out.kept (fun j hj => ⟨hj, hb.block j (Nat.lt_of_lt_of_le hj.2 hsw.out)⟩))
            generalize namesL p = X at *
            generalize namesL x0 = Y at *
            generalize namesL cm = Z at *
            clear hb3 hbS hln hx1 hx0 hcm
            go_wp2_with fail
            refine (HUP.out _).mono ?_
            rintro e w5 ⟨rfl, rfl⟩
            go_wp2_with fail
            have HRF := Lib.hid (Below.refl wr.heap.size wr)
            refine wp_region_held_drew (S := (fun w' => w'.cell? b = some (.string ⟨x0.toArray⟩) ∧ Hid (Below wr.heap.size wr w'))) (by kernel_rfl) (by first | exact HF.out _ (HP.out _ (by assumption)) | exact HF.out _ (Below.drew (Hid.out (by assumption))) | exact HF.out _ (Hid.out (by assumption))) (fun hHeld => ?_)
            refine wpAnyH_take (i := 0) (oi := ⟨_, _, _, _, _, _⟩) (v := ?_) rfl (by kernel_rfl) (by kernel_rfl) (by kernel_rfl) (fun _ _ _ h => h) (Or.inl ⟨by rfl, ?_⟩) (by assumption) ?_
            rotate_left
            · intro w hSw; (try dsimp only at hSw); first | (go_simp; done) | (go_simp; with_reducible rfl)
            try simp only [Act.put, List.setIfInBounds_toArray, List.set_cons_zero, List.set_cons_succ]
            refine wpAnyH_take (i := 2) (oi := ⟨_, _, _, _, _, _⟩) (v := ?_) rfl (by kernel_rfl) (by kernel_rfl) (by kernel_rfl) (fun _ _ _ h => h) (Or.inl ⟨by rfl, ?_⟩) (by assumption) ?_
            rotate_left
            · intro w hSw; (try dsimp only at hSw); first | (go_simp; done) | (go_simp; with_reducible rfl)
            try simp only [Act.put, List.setIfInBounds_toArray, List.set_cons_zero, List.set_cons_succ]
            refine wpAnyH_take (i := 3) (oi := ⟨_, _, _, _, _, _⟩) (v := ?_) rfl (by kernel_rfl) (by kernel_rfl) (by kernel_rfl) (fun _ _ _ h => h) (Or.inl ⟨by rfl, ?_⟩) (by assumption) ?_
            rotate_left
            · intro w hSw; (try dsimp only at hSw); first | (go_simp; done) | (go_simp; with_reducible rfl)
            try simp only [Act.put, List.setIfInBounds_toArray, List.set_cons_zero, List.set_cons_succ]
            refine wpAnyH_take (i := 4) (oi := ⟨_, _, _, _, _, _⟩) (v := ?_) rfl (by kernel_rfl) (by kernel_rfl) (by kernel_rfl) (fun _ _ _ h => h) (Or.inl ⟨by rfl, ?_⟩) (by assumption) ?_
            rotate_left
            · intro w hSw; (try dsimp only at hSw); first | (go_simp; done) | (go_simp; with_reducible rfl)
            try simp only [Act.put, List.setIfInBounds_toArray, List.set_cons_zero, List.set_cons_succ]
            refine wpAnyH_ready (rs := [1]) (by kernel_rfl) (by simp) ?_
            refine AllReadyH.cons (o := ⟨_, _, _, _, _, _⟩) rfl (fun K hK => ?_) AllReadyH.nil
            go_simp
            refine (HSP1.out _ (HP.out _ (by assumption))).mono ?_; rintro e wa1 ⟨va1, rfl, hva1, hba⟩; have HA1 := Lib.hid (below_tr' (HP.out _ (by assumption)) hba); have HVA1 := Lib.hid (hva1.kept (S' := fun k => k < wa1.heap.size) (w' := wa1) (fun k hk => ⟨hk.2, rfl⟩)); obtain ⟨xa, xc, rfl⟩ := hva1.shape; clear hba hva1
            try go_wp2_with fail
            refine hK.out _ _ (by first | exact HF.out _ (HP.out _ (by assumption)) | exact HF.out _ (Below.drew (Hid.out (by assumption))) | exact HF.out _ (Hid.out (by assumption))) (fun hHeld => ?_)
            clear hK K
            try simp only [Act.put, List.setIfInBounds_toArray, List.set_cons_zero, List.set_cons_succ]
            refine wpAnyH_ready (rs := [5]) (by kernel_rfl) (by simp) ?_
            refine AllReadyH.cons (o := ⟨_, _, _, _, _, _⟩) rfl (fun K hK => ?_) AllReadyH.nil
            go_simp
            refine (HSP2.out wa1 HA1.out).mono ?_; rintro e wa5 ⟨va5, rfl, hva5, hba⟩; have HA5 := Lib.hid (below_tr' HA1.out hba); have HVA2 := Lib.hid (hva5.kept (S' := fun k => k < wa5.heap.size) (w' := wa5) (fun k hk => ⟨hk.2, rfl⟩)); have HVA1' := Lib.hid (HVA1.out.kept (S' := fun k => k < wa1.heap.size) (w' := wa5) (fun k hk => ⟨hk, hba.block k hk⟩)); have hsa := hba.size; obtain ⟨ya, yc, rfl⟩ := hva5.shape; clear hba hva5
            try go_wp2_with fail
            refine hK.out _ _ (by first | exact HF.out _ (HP.out _ (by assumption)) | exact HF.out _ (Below.drew (Hid.out (by assumption))) | exact HF.out _ (Hid.out (by assumption))) (fun hHeld => ?_)
            clear hK K
            try simp only [Act.put, List.setIfInBounds_toArray, List.set_cons_zero, List.set_cons_succ]
            refine wpAnyH_take (i := 6) (oi := ⟨_, _, _, _, _, _⟩) (v := ?_) rfl (by kernel_rfl) (by kernel_rfl) (by kernel_rfl) (fun _ _ _ h => h) (Or.inl ⟨by rfl, ?_⟩) (by assumption) ?_
            rotate_left
            · intro w hSw; (try dsimp only at hSw); first | (go_simp; done) | (go_simp; with_reducible rfl)
            try simp only [Act.put, List.setIfInBounds_toArray, List.set_cons_zero, List.set_cons_succ]
            refine wpAnyH_take (i := 7) (oi := ⟨_, _, _, _, _, _⟩) (v := ?_) rfl (by kernel_rfl) (by kernel_rfl) (by kernel_rfl) (fun _ _ _ h => h) (Or.inl ⟨by rfl, ?_⟩) (by assumption) ?_
            rotate_left
            · intro w hSw; (try dsimp only at hSw); first | (go_simp; done) | (go_simp; with_reducible rfl)
            try simp only [Act.put, List.setIfInBounds_toArray, List.set_cons_zero, List.set_cons_succ]
            refine wpAnyH_done (by kernel_rfl) ?_ _
            go_wp2_with fail
            refine (HSP3.out wa5 HA5.out).mono ?_
            rintro e w6 ⟨v6, rfl, hv6, hb6⟩
            have CX := Lib.hid (HVA1'.out.kept (S' := fun k => k < wa5.heap.size) (w' := w6) (fun k hk => ⟨Nat.lt_of_lt_of_le hk hsa, hb6.block k (Nat.lt_of_lt_of_le hk hsa)⟩))
            have CY := Lib.hid (HVA2.out.kept (S' := fun k => k < wa5.heap.size) (w' := w6) (fun k hk => ⟨hk, hb6.block k hk⟩))
            have B6 := Lib.hid (below_tr' HA5.out hb6)
            obtain ⟨za, zc, rfl⟩ := hv6.shape
            have BB := Lib.hid (BV.out.trans (B6.out.mono BV.out.size))
            have CB := Lib.hid (HBK.out w6 B6.out)
            have HS6 : Hid (w2.heap.size ≤ w6.heap.size) := Lib.hid (Nat.le_trans hsw.out B6.out.size)
            have HNX : Hid (∀ q', (q && deepB x0 cm p) = q' → (0 < L.length → q' = (L.take (k + 1)).all (deepB x0 cm))) := Lib.hid (fun q' h _ => by rw [HNQ.out, h])
            have HNZ : Hid (∀ q' : Bool, L.length = 0 → q' = false) := Lib.hid (fun q' h => by omega)
            clear hv6 hb6 hsa HUP HSP1 HSP2 HSP3 HF HP HRF c0 c1 HVA1 HVA2 HVA1' HA1 HA5
            have hw1 : IntKind.i64.wrap ((Z.length : Int) + 1) = (Z.length : Int) + 1 := IntWalk.i64_in _ (by omega)
            cases q
            · have HE1 := Lib.hid (HNX.out false rfl)
              go_wp2_with fail
              go_quiet (fail)
              go_wp2_with fail
              go_roundw
              case rel => exact ⟨k + 1, false, by omega, by go_num, rfl, HE1, Lib.hid (HNZ.out _), CB, Lib.hid (BB.out.trans (drewn _ _ _)), HS6⟩
              case measure => simp [intOf]; omega
            · by_cases h1 : Z.length + 1 < X.length
              · by_cases h2 : Z.length + 1 < Y.length
                · obtain ⟨bx, rfl, _, _, hbx⟩ := CX.out.at (by omega)
                  obtain ⟨bY, rfl, _, _, hby⟩ := CY.out.at (by omega)
                  have e1 := hbx Z.length (by omega)
                  have e2 := hby Z.length (by omega)
                  have i1 : Z.length < X.length := by omega
                  have i2 : Z.length < Y.length := by omega
                  have HE1 : Hid (∀ r, (X.getD Z.length [] == Y.getD Z.length []) = r → (0 < L.length → r = (L.take (k + 1)).all (deepB x0 cm))) := Lib.hid (fun r hr => HNX.out r (by rw [HDB.out, hr, decide_eq_true h1, decide_eq_true h2]; rfl))
                  generalize X.getD Z.length [] = X1 at *
                  generalize Y.getD Z.length [] = Y1 at *
                  obtain ⟨r, hr⟩ : ∃ r, (X1 == Y1) = r := ⟨_, rfl⟩
                  have HE2 := Lib.hid (HE1.out r hr)
                  have d1 : decide ((Z.length : Int) + 1 < (X.length : Int)) = true := decide_eq_true (by omega)
                  have d2 : decide ((Z.length : Int) + 1 < (Y.length : Int)) = true := decide_eq_true (by omega)
                  clear hbx hby HE1
                  go_wp2_with fail
                  go_quiet (fail)
                  go_wp2_with fail
                  go_roundw
                  case rel => exact ⟨k + 1, r, by omega, by go_num, rfl, HE2, Lib.hid (HNZ.out _), CB, Lib.hid (BB.out.trans (drewn _ _ _)), HS6⟩
                  case measure => simp [intOf]; omega
                · have HE1 := Lib.hid (HNX.out false (by rw [HDB.out, decide_eq_true h1, decide_eq_false h2]; rfl))
                  have d1 : decide ((Z.length : Int) + 1 < (X.length : Int)) = true := decide_eq_true (by omega)
                  have d2 : decide ((Z.length : Int) + 1 < (Y.length : Int)) = false := decide_eq_false (by omega)
                  go_wp2_with fail
                  go_quiet (fail)
                  go_wp2_with fail
                  go_roundw
                  case rel => exact ⟨k + 1, false, by omega, by go_num, rfl, HE1, Lib.hid (HNZ.out _), CB, Lib.hid (BB.out.trans (drewn _ _ _)), HS6⟩
                  case measure => simp [intOf]; omega
              · have HE1 := Lib.hid (HNX.out false (by rw [HDB.out, decide_eq_false h1]; rfl))
                have d1 : decide ((Z.length : Int) + 1 < (X.length : Int)) = false := decide_eq_false (by omega)
                go_wp2_with fail
                go_quiet (fail)
                go_wp2_with fail
                go_roundw
                case rel => exact ⟨k + 1, false, by omega, by go_num, rfl, HE1, Lib.hid (HNZ.out _), CB, Lib.hid (BB.out.trans (drewn _ _ _)), HS6⟩
                case measure => simp [intOf]; omega
          · have hkl : k = L.length := by omega
            have HQF : Hid (q = false) := Lib.hid (by
              rcases Nat.eq_zero_or_pos L.length with h0 | h0
              · exact hq0.out h0
              · rw [hq.out h0, hkl, List.take_length]; exact (HDA.out h0).2)
            have hqf := HQF.out
            clear hkl
            subst hqf
            go_wp2_with fail
            go_ret
            exact ⟨rfl, BV.out⟩
end Go.Proofs.YtplbcncbljcfmaaDoor
