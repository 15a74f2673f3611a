/- The law DagTips. -/
import Derived.Test.YtfphkbbgbfnhaaaDagY
namespace Go.Proofs.Ytfphkbbgbfnhaaa
open Go.RowKit Go.Shelf Go.Maps Go.Lib Go.Sort

theorem tips_in {g : Gr} (hg : Good g) {l R : List Txt} (h : IsTips g (begF g l) R) {x : Txt} (hx : x ∈ R) : x ∈ names g ∧ x ∈ l := by
  obtain ⟨i, h1, h2, h3, _⟩ := (tips_mem hg h).1 hx
  refine ⟨?_, h3⟩
  rw [in_names, ← h2, idx_nm hg h1]; exact h1
theorem tips_anti {g : Gr} (hg : Good g) {l R : List Txt} (h : IsTips g (begF g l) R) {x y : Txt} (hx : x ∈ R) (hy : y ∈ R) (hc : comesB g x y = true) : x = y := by
  obtain ⟨i, h1, rfl, h3, _⟩ := (tips_mem hg h).1 hx
  obtain ⟨j, k1, rfl, _, k4⟩ := (tips_mem hg h).1 hy
  rw [comes_iff hg, idx_nm hg h1, idx_nm hg k1] at hc
  rw [k4 i h1 h3 hc.2.2]
theorem tips_above {g : Gr} (hg : Good g) {l R : List Txt} (h : IsTips g (begF g l) R) {n : Txt} (hn : n ∈ l) (hi : n ∈ names g) : ∃ x ∈ R, comesB g x n = true := by
  have key : ∀ k i, g.length - i ≤ k → i < g.length → nmOf g i ∈ l → ∃ x ∈ R, comesB g x (nmOf g i) = true := fun k => by
    induction k with
    | zero => intro i h1 h2; omega
    | succ k ih =>
      intro i h1 h2 h3
      rcases Classical.em (∀ s, s < g.length → nmOf g s ∈ l → Rch g s i → s = i) with ht | ht
      · exact ⟨nmOf g i, (tips_mem hg h).2 ⟨i, h2, rfl, h3, ht⟩, by rw [comes_iff hg, idx_nm hg h2]; exact ⟨h2, h2, .refl _⟩⟩
      · obtain ⟨s, hs⟩ := Classical.not_forall.1 ht
        simp only [Classical.not_imp] at hs
        obtain ⟨s1, s2, s3, s4⟩ := hs
        have := s3.le hg
        obtain ⟨x, hx, hc⟩ := ih s (by omega) s1 s2
        refine ⟨x, hx, comes_trans hg hc ?_⟩
        rw [comes_iff hg, idx_nm hg s1, idx_nm hg h2]
        exact ⟨s1, h2, s3⟩
  rw [in_names] at hi
  have := key _ (idxN g n) (Nat.le_refl _) hi (by rw [nm_idx hi]; exact hn)
  rwa [nm_idx hi] at this
theorem tips_again {g : Gr} (hg : Good g) {l R R' : List Txt} (h : IsTips g (begF g l) R) (h' : IsTips g (begF g R) R') : R' = R := by
  refine asc_eq h'.1 h.1 (fun x => ?_)
  rw [tips_mem hg h']
  constructor
  · rintro ⟨i, _, _, h3, _⟩; exact h3
  · intro hx
    obtain ⟨i, h1, rfl, h3, h4⟩ := (tips_mem hg h).1 hx
    exact ⟨i, h1, rfl, hx, fun s hs hsR hr => h4 s hs (tips_in hg h hsR).2 hr⟩
/-- What stays from round to round. -/
def LSt (w2 : World) (bg bm : Nat) (g : Gr) (vw : Value) (w4 W : World) : Prop := BSt w2 W bg bm g vw ∧ Below w4.heap.size w4 W
theorem LSt.comes {w2 w4 W : World} {bg bm : Nat} {g : Gr} {vw : Value} (h : LSt w2 bg bm g vw w4 W) {x y : Txt} (hx : x.length ≤ 4194304) (hy : y.length ≤ 4194304) {r : Bool} (hr : comesB g x y = r) :
    Calls Try.prog 16 #[.pointer (some ⟨bg, 0, none⟩), .string ⟨x.toArray⟩, .string ⟨y.toArray⟩] W fun e w' => e = .returned (.bool r) ∧ LSt w2 bg bm g vw w4 w' :=
  (h.1.comes hx hy hr).mono fun _ _ ⟨h1, h2, h3⟩ => ⟨h1, h2, h.2.trans (h3.mono h.2.size)⟩
theorem any_take {α : Type} {d : α} (p : α → Bool) {l : List α} {k : Nat} (hk : k < l.length) : (l.take (k + 1)).any p = ((l.take k).any p || p (l.getD k d)) := by
  rw [take_snoc (d := d) hk, List.any_append]; simp
theorem asc_at {l : List Txt} (h : Asc l) {q k : Nat} (h1 : q < k) (h2 : k < l.length) : l.getD q [] < l.getD k [] := by
  rw [getD_at h2, getD_at (by omega : q < l.length)]
  exact List.pairwise_iff_getElem.1 h q k (by omega) h2 h1
set_option maxRecDepth 100000 in
set_option maxHeartbeats 16000000 in
theorem dtips_law (v vs : Value) (nodes : List (Txt × List Txt)) (some_ : List Txt) (w : World) (h : NodesC (fun k => k < w.heap.size) w v nodes) (hsm : StrsC (fun k => k < w.heap.size) w vs some_) (hs : sumR nodeB nodes ≤ 1048576) (hl : sumL some_ ≤ 1048576) :
    Calls Try.prog 8 #[v, vs] w (TrueP w) := by
  unfold TrueP
  obtain ⟨na, nc, rfl⟩ := RowsC.shape h
  obtain ⟨sa, sc, rfl⟩ := hsm.shape
  have hnl := sumR_len nodeB_pos nodes
  obtain ⟨hsl, hsb⟩ := sum_bounds hl (by omega)
  have H := Lib.hid (fun (W : World) (hb : Below w.heap.size w W) => RowsC.kept node_keeps h (S' := fun k => k < w.heap.size) (w' := W) (fun k hk => ⟨hk, hb.block k hk⟩))
  have HM := Lib.hid (fun (W : World) (hb : Below w.heap.size w W) => hsm.kept (S' := fun k => k < w.heap.size) (w' := W) (fun k hk => ⟨hk, hb.block k hk⟩))
  have HSB := Lib.hid hsb
  clear h hsm hl hsb
  go_enter Try.func8, Try.ntmps8
  go_wp2_with fail
  refine (awake_any w).mono ?_
  rintro e w1 ⟨rfl, b1⟩
  have B1 := Lib.hid b1
  clear b1
  by_cases h60 : 60 < nodes.length
  · go_wp2_with fail
    go_ret
    exact ⟨rfl, B1.out⟩
  by_cases h30 : 30 < some_.length
  · go_wp2_with fail
    go_ret
    exact ⟨rfl, B1.out⟩
  have HB := Lib.hid (built_law (fun k => k < w.heap.size) _ nodes w1 (fun k hk => Nat.lt_of_lt_of_le hk B1.out.size) (H.out w1 B1.out) (by omega) hs)
  go_wp2_with fail
  refine HB.out.mono ?_
  rintro e w2 ⟨bg, bm, vw, rfl, g2⟩
  have G2 := Lib.hid g2
  have BE : Hid (∀ W, BSt w1 W bg bm (buildN nodes) vw → Below w.heap.size w W) := Lib.hid (fun W hW => B1.out.trans (hW.below.mono B1.out.size))
  have HG := Lib.hid g2.good
  have hs12 := g2.size
  have hs01 := B1.out.size
  have HGL : Hid ((buildN nodes).length ≤ 60) := Lib.hid (by have := buildN_len nodes; omega)
  clear g2 HB H
  generalize buildN nodes = g at *
  go_wp2_with fail
  refine (G2.out.gst.tips (fun k hk => by omega) (HM.out w2 (BE.out _ G2.out)) (by omega) HSB.out).mono ?_
  rintro e w3 ⟨v3, R, rfl, o3, t3, l3, b3⟩
  have G3 : Hid (LSt w1 bg bm g vw w3 w3) := Lib.hid ⟨G2.out.on b3, Below.refl _ _⟩
  have O3 := Lib.hid (ownS_c o3)
  obtain ⟨ra, rc, rfl⟩ := ownS_slice o3
  have HT := Lib.hid t3
  have hR : R.length ≤ 60 := by have := HGL.out; omega
  have HRB : Hid (∀ k, k < R.length → (R.getD k []).length ≤ 4194304 ∧ R.getD k [] ∈ R ∧ R.getD k [] ∈ names g) := Lib.hid (fun k hk => by
    have h1 : R.getD k [] ∈ R := by rw [getD_at hk]; exact List.getElem_mem hk
    have h2 := tips_in HG.out HT.out h1
    exact ⟨HSB.out _ h2.2, h1, h2.1⟩)
  have HR : Hid (∀ W, Below w3.heap.size w3 W → StrsC (fun k => k < W.heap.size) W (.slice ra R.length rc) R) := Lib.hid (fun W hW => O3.out.kept (fun k hk => ⟨Nat.lt_of_lt_of_le hk.2 hW.size, hW.block k hk.2⟩))
  have HM3 : Hid (∀ W, LSt w1 bg bm g vw w3 W → StrsC (fun k => k < w.heap.size) W (.slice sa some_.length sc) some_) := Lib.hid (fun W hW => HM.out W (BE.out _ hW.1))
  have hs23 := b3.size
  clear o3 t3 b3 l3 O3 HM
  go_wp2_with fail
  go_loopw [41] (fun i wr => ∃ k : Nat, k ≤ R.length ∧ i = .int .i64 k ∧ Hid (LSt w1 bg bm g vw w3 wr)) (fun i _ => R.length - (intOf i).toNat)
  case atStart => exact ⟨0, Nat.zero_le _, rfl, G3⟩
  case round =>
    obtain ⟨k, hk, rfl, hS⟩ := hrel
    by_cases hlt : k < R.length
    · obtain ⟨rg, ro, rfl, _, _, _, hc⟩ := (HR.out wr hS.out.2).at (by omega)
      have c1 := hc k hlt
      obtain ⟨hx1, hx2, hx3⟩ := HRB.out k hlt
      have HXR := Lib.hid hx2
      obtain ⟨n, hn⟩ := findN_in (rg := refOf g) (x := R.getD k []) (by rw [refOf_names]; exact hx3)
      have HN := Lib.hid hn
      have hge : decide ((n : Int) < 0) = false := by simp
      have key : (k = 0) ∨ ∃ q : Nat, (k : Int) - 1 = q ∧ q < k := by
        rcases Nat.eq_zero_or_pos k with h | h
        · exact Or.inl h
        · exact Or.inr ⟨k - 1, by omega, by omega⟩
      have step : ∀ (K : Prop), ((k = 0 ∧ decide (0 < k) = false) → K) → (∀ q : Nat, (k : Int) - 1 = q → q < k → decide (0 < k) = true → wr.cell? ⟨rg, ro + q, none⟩ = some (.string ⟨(R.getD q []).toArray⟩) → Op.bytesLess (R.getD q []) (R.getD k []) = true → K) → K := fun K h1 h2 => by
        rcases key with h | ⟨q, h, hq⟩
        · exact h1 ⟨h, by rw [h]; rfl⟩
        · exact h2 q h hq (decide_eq_true (by omega)) (hc q (by omega)) (by rw [bytesLess_eq]; exact decide_eq_true (asc_at HT.out.1 hq hlt))
      have HX1 : Hid (∀ j, j < R.length → R.getD j [] ≠ R.getD k [] → comesB g (R.getD k []) (R.getD j []) = false) := Lib.hid (fun j hj hne => by
        rw [← Bool.not_eq_true]
        intro hc
        exact hne (tips_anti HG.out HT.out hx2 (HRB.out j hj).2.1 hc).symm)
      clear hc hx2 hx3 hn key
      generalize R.getD k [] = x at *
      have HRC : Hid (∀ W, Below w3.heap.size w3 W → ∀ j, j < R.length → W.cell? ⟨rg, ro + j, none⟩ = some (.string ⟨(R.getD j []).toArray⟩)) := Lib.hid (fun W hW j hj => by
        obtain ⟨g', o', e', _, _, _, h'⟩ := (HR.out W hW).at (by omega)
        cases e'
        exact h' j hj)
      refine step _ (fun hz => ?_) (fun q hq1 hq2 hq3 hq4 hq5 => ?_)
      · have hz2 := hz.2
        have HZ := Lib.hid hz
        clear hz step
        go_wp2_with fail
        refine (hS.out.1.find HN.out).mono ?_
        rintro e w4 ⟨rfl, rfl⟩
        clear hz2 c1
        go_wp2_with fail
        go_loopw [65] (fun i wr => ∃ j : Nat, j ≤ R.length ∧ i = .int .i64 j ∧ Hid (LSt w1 bg bm g vw w3 wr)) (fun i _ => R.length - (intOf i).toNat)
        case atStart => exact ⟨0, Nat.zero_le _, rfl, hS⟩
        case round =>
          obtain ⟨j, hj, rfl, hS2⟩ := hrel
          by_cases hjl : j < R.length
          · have c2 := HRC.out wr hS2.out.2 j hjl
            obtain ⟨hy1, _, _⟩ := HRB.out j hjl
            have HXJ := Lib.hid (HX1.out j hjl)
            generalize R.getD j [] = y at *
            by_cases hxy : y = x
            · have gx : (x == y) = true := by rw [hxy]; simp
              clear hxy
              go_wp2_with fail
              go_roundw
              case rel => exact ⟨j + 1, by omega, by go_num, hS2⟩
              case measure => simp [intOf]; omega
            · have gx : (x == y) = false := by simpa using fun e => hxy e.symm
              have HF := Lib.hid (HXJ.out hxy)
              clear hxy
              go_wp2_with fail
              refine (hS2.out.comes hx1 hy1 HF.out).mono ?_
              rintro e w5 ⟨rfl, g5⟩
              have G5 := Lib.hid g5
              clear g5
              go_wp2_with fail
              go_roundw
              case rel => exact ⟨j + 1, by omega, by go_num, G5⟩
              case measure => simp [intOf]; omega
          · go_wp2_with fail
            go_roundw
            case rel => exact ⟨k + 1, by omega, by go_num, hS2⟩
            case measure => simp [intOf]; omega
      · clear step
        generalize R.getD q [] = xq at *
        go_wp2_with fail
        refine (hS.out.1.find HN.out).mono ?_
        rintro e w4 ⟨rfl, rfl⟩
        clear c1 hq1 hq3 hq4 hq5
        go_wp2_with fail
        go_loopw [65] (fun i wr => ∃ j : Nat, j ≤ R.length ∧ i = .int .i64 j ∧ Hid (LSt w1 bg bm g vw w3 wr)) (fun i _ => R.length - (intOf i).toNat)
        case atStart => exact ⟨0, Nat.zero_le _, rfl, hS⟩
        case round =>
          obtain ⟨j, hj, rfl, hS2⟩ := hrel
          by_cases hjl : j < R.length
          · have c2 := HRC.out wr hS2.out.2 j hjl
            obtain ⟨hy1, _, _⟩ := HRB.out j hjl
            have HXJ := Lib.hid (HX1.out j hjl)
            generalize R.getD j [] = y at *
            by_cases hxy : y = x
            · have gx : (x == y) = true := by rw [hxy]; simp
              clear hxy
              go_wp2_with fail
              go_roundw
              case rel => exact ⟨j + 1, by omega, by go_num, hS2⟩
              case measure => simp [intOf]; omega
            · have gx : (x == y) = false := by simpa using fun e => hxy e.symm
              have HF := Lib.hid (HXJ.out hxy)
              clear hxy
              go_wp2_with fail
              refine (hS2.out.comes hx1 hy1 HF.out).mono ?_
              rintro e w5 ⟨rfl, g5⟩
              have G5 := Lib.hid g5
              clear g5
              go_wp2_with fail
              go_roundw
              case rel => exact ⟨j + 1, by omega, by go_num, G5⟩
              case measure => simp [intOf]; omega
          · go_wp2_with fail
            go_roundw
            case rel => exact ⟨k + 1, by omega, by go_num, hS2⟩
            case measure => simp [intOf]; omega
    · go_wp2_with fail
      go_loopw [82] (fun i wr => ∃ j : Nat, j ≤ some_.length ∧ i = .int .i64 j ∧ Hid (LSt w1 bg bm g vw w3 wr)) (fun i _ => some_.length - (intOf i).toNat)
      case atStart => exact ⟨0, Nat.zero_le _, rfl, hS⟩
      case round =>
        obtain ⟨j, hj, rfl, hS2⟩ := hrel
        by_cases hjl : j < some_.length
        · obtain ⟨sg, so, rfl, _, _, _, hc⟩ := (HM3.out wr hS2.out).at (by omega)
          have c2 := hc j hjl
          have hnb := HSB.out _ (by rw [getD_at hjl]; exact List.getElem_mem hjl : some_.getD j [] ∈ some_)
          have HNS : Hid (some_.getD j [] ∈ some_) := Lib.hid (by rw [getD_at hjl]; exact List.getElem_mem hjl)
          clear hc
          generalize some_.getD j [] = n at *
          have HAB : Hid ((decide (n ∉ names g) || R.any (fun x => comesB g x n)) = true) := Lib.hid (by
            by_cases hi : n ∈ names g
            · obtain ⟨x, hx1, hx2⟩ := tips_above HG.out HT.out HNS.out hi
              rw [Bool.or_eq_true]; right
              exact List.any_eq_true.2 ⟨x, hx1, hx2⟩
            · simp [hi])
          rcases find_iff g n with ⟨hm, fn, hfn⟩ | ⟨hm, hfn⟩
          · have hge : decide ((fn : Int) < 0) = false := by simp
            have HD : Hid (decide (n ∉ names g) = false) := Lib.hid (by simp [hm])
            have HFN := Lib.hid hfn
            clear hm hfn
            go_wp2_with fail
            refine (hS2.out.1.find HFN.out).mono ?_
            rintro e w4 ⟨rfl, rfl⟩
            clear c2
            go_wp2_with fail
            go_loopw [92, 15] (fun i f wr => ∃ (m : Nat) (b : Bool), m ≤ R.length ∧ i = .int .i64 m ∧ f = .bool b ∧ Hid (b = (decide (n ∉ names g) || (R.take m).any (fun x => comesB g x n))) ∧ Hid (LSt w1 bg bm g vw w3 wr)) (fun i _ _ => R.length - (intOf i).toNat)
            case atStart => exact ⟨0, false, Nat.zero_le _, rfl, rfl, Lib.hid (by rw [HD.out]; rfl), hS2⟩
            case round =>
              obtain ⟨m, b, hm, rfl, rfl, hb, hS3⟩ := hrel
              by_cases hml : m < R.length
              · obtain ⟨rg, ro, rfl, _, _, _, hc⟩ := (HR.out wr hS3.out.2).at (by omega)
                have c3 := hc m hml
                obtain ⟨hx1, _, _⟩ := HRB.out m hml
                have HTK : Hid ((R.take (m + 1)).any (fun x => comesB g x n) = ((R.take m).any (fun x => comesB g x n) || comesB g (R.getD m []) n)) := Lib.hid (any_take _ hml)
                clear hc
                generalize R.getD m [] = x at *
                cases b
                · obtain ⟨r, hr⟩ : ∃ r, comesB g x n = r := ⟨_, rfl⟩
                  have HRR := Lib.hid hr
                  clear hr
                  go_wp2_with fail
                  refine (hS3.out.comes hx1 hnb HRR.out).mono ?_
                  rintro e w5 ⟨rfl, g5⟩
                  have G5 := Lib.hid g5
                  clear g5
                  go_wp2_with fail
                  go_roundw
                  case rel => exact ⟨m + 1, r, by omega, by go_num, rfl, Lib.hid (by rw [HTK.out, ← Bool.or_assoc, ← hb.out, HRR.out]; rfl), G5⟩
                  case measure => simp [intOf]; omega
                · go_wp2_with fail
                  go_roundw
                  case rel => exact ⟨m + 1, true, by omega, by go_num, rfl, Lib.hid (by rw [HTK.out, ← Bool.or_assoc, ← hb.out]; rfl), hS3⟩
                  case measure => simp [intOf]; omega
              · have hbt : b = true := by rw [hb.out, List.take_of_length_le (by omega), HAB.out]
                subst hbt
                go_wp2_with fail
                go_roundw
                case rel => exact ⟨j + 1, by omega, by go_num, hS3⟩
                case measure => simp [intOf]; omega
          · have HD : Hid (decide (n ∉ names g) = true) := Lib.hid (by simp [hm])
            have HFN := Lib.hid hfn
            clear hm hfn
            go_wp2_with fail
            refine (hS2.out.1.find HFN.out).mono ?_
            rintro e w4 ⟨rfl, rfl⟩
            clear c2
            go_wp2_with fail
            go_loopw [92, 15] (fun i f wr => ∃ (m : Nat) (b : Bool), m ≤ R.length ∧ i = .int .i64 m ∧ f = .bool b ∧ Hid (b = (decide (n ∉ names g) || (R.take m).any (fun x => comesB g x n))) ∧ Hid (LSt w1 bg bm g vw w3 wr)) (fun i _ _ => R.length - (intOf i).toNat)
            case atStart => exact ⟨0, true, Nat.zero_le _, rfl, rfl, Lib.hid (by rw [HD.out]; rfl), hS2⟩
            case round =>
              obtain ⟨m, b, hm, rfl, rfl, hb, hS3⟩ := hrel
              by_cases hml : m < R.length
              · obtain ⟨rg, ro, rfl, _, _, _, hc⟩ := (HR.out wr hS3.out.2).at (by omega)
                have c3 := hc m hml
                obtain ⟨hx1, _, _⟩ := HRB.out m hml
                have HTK : Hid ((R.take (m + 1)).any (fun x => comesB g x n) = ((R.take m).any (fun x => comesB g x n) || comesB g (R.getD m []) n)) := Lib.hid (any_take _ hml)
                clear hc
                generalize R.getD m [] = x at *
                cases b
                · obtain ⟨r, hr⟩ : ∃ r, comesB g x n = r := ⟨_, rfl⟩
                  have HRR := Lib.hid hr
                  clear hr
                  go_wp2_with fail
                  refine (hS3.out.comes hx1 hnb HRR.out).mono ?_
                  rintro e w5 ⟨rfl, g5⟩
                  have G5 := Lib.hid g5
                  clear g5
                  go_wp2_with fail
                  go_roundw
                  case rel => exact ⟨m + 1, r, by omega, by go_num, rfl, Lib.hid (by rw [HTK.out, ← Bool.or_assoc, ← hb.out, HRR.out]; rfl), G5⟩
                  case measure => simp [intOf]; omega
                · go_wp2_with fail
                  go_roundw
                  case rel => exact ⟨m + 1, true, by omega, by go_num, rfl, Lib.hid (by rw [HTK.out, ← Bool.or_assoc, ← hb.out]; rfl), hS3⟩
                  case measure => simp [intOf]; omega
              · have hbt : b = true := by rw [hb.out, List.take_of_length_le (by omega), HAB.out]
                subst hbt
                go_wp2_with fail
                go_roundw
                case rel => exact ⟨j + 1, by omega, by go_num, hS3⟩
                case measure => simp [intOf]; omega
        · have HR2 := HR.out wr hS2.out.2
          go_wp2_with fail
          refine (hS2.out.1.gst.tips (fun _ hk => hk) HR2 (by omega) (fun x hx => HSB.out x (tips_in HG.out HT.out hx).2)).mono ?_
          rintro e w5 ⟨v5, R5, rfl, o5, t5, l5, b5⟩
          obtain rfl := tips_again HG.out HT.out t5
          have G5 := Lib.hid (hS2.out.1.on b5)
          have O5 := Lib.hid (ownS_c o5)
          have H5 := Lib.hid (HR.out w5 (hS2.out.2.trans (b5.mono hS2.out.2.size)))
          obtain ⟨a5, c5, rfl⟩ := ownS_slice o5
          clear o5 t5 l5 b5 HR2
          go_wp2_with fail
          refine (same_any _ _ _ _ _ _ w5 O5.out H5.out (by omega) (by omega)).mono ?_
          rintro e w6 ⟨rfl, n6, rfl⟩
          go_wp2_with fail
          go_ret
          exact ⟨rfl, (BE.out _ G5.out).trans (drewn _ w5 n6)⟩
end Go.Proofs.Ytfphkbbgbfnhaaa
