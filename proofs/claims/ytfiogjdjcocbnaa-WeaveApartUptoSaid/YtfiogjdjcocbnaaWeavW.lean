/- The law of marks. -/
import Derived.Test.YtfiogjdjcocbnaaWeavV
namespace Go.Proofs.Ytfiogjdjcocbnaa
open Go.RowKit
attribute [local go_sem ↓] Go.wp_at_zero Go.wp_at_succ

theorem lined_lines (t : List UInt8) : Lined (linesL t) := by
  induction t with
  | nil => exact lined_nil
  | cons c t ih =>
    rw [linesL]
    by_cases h : c = 10
    · rw [if_pos h]
      exact Lined.append (l := [[10]]) (AllEnd.one rfl) ih
    · rw [if_neg h]
      cases e : linesL t with
      | nil =>
        refine ⟨fun x hx => ?_, fun x u y e2 hy => ?_⟩
        · simp at hx; rw [hx]; simp
        · have := congrArg List.length e2
          have h1 : 0 < y.length := List.length_pos_iff.2 hy
          simp at this; omega
      | cons z r =>
        rw [e] at ih
        refine ⟨fun x hx => ?_, fun x u y e2 hy => ?_⟩
        · rcases List.mem_cons.1 hx with rfl | hx
          · simp
          · exact ih.ne x (List.mem_cons_of_mem _ hx)
        · cases u with
          | nil =>
            injection e2 with e3 e4
            subst e3
            have h1 := ih.ends z [] r rfl (by rw [e4]; exact hy)
            have h2 := ih.ne z List.mem_cons_self
            unfold EndsB at h1 ⊢
            cases z with
            | nil => exact absurd rfl h2
            | cons d z => rw [List.getLast?_cons_cons]; exact h1
          | cons u0 us =>
            injection e2 with _ e4
            exact ih.ends x (z :: us) y (by rw [e4]; rfl) hy
/-- A line of such a list: it ends, or it is the last one. -/
theorem lined_at {l : List (List UInt8)} (h : Lined l) {k : Nat} {x : List UInt8} (hx : l[k]? = some x) : x ≠ [] ∧ (x.getLast? = some 10 ∨ k + 1 = l.length) := by
  have hm := List.mem_of_getElem? hx
  refine ⟨h.ne x hm, ?_⟩
  have hk : k < l.length := (List.getElem?_eq_some_iff.1 hx).1
  by_cases hl : k + 1 = l.length
  · exact Or.inr hl
  · left
    have e : l = l.take k ++ x :: l.drop (k + 1) := by
      have h1 := List.take_append_drop k l
      have h2 : l.drop k = x :: l.drop (k + 1) := by rw [List.drop_eq_getElem_cons hk]; congr 1; rw [List.getElem?_eq_getElem hk] at hx; injection hx
      rw [h2] at h1; exact h1.symm
    refine h.ends x _ _ e (fun e2 => ?_)
    have := congrArg List.length e2
    simp at this; omega
theorem clash_cons {α : Type} (p : PartN α) (r : List (PartN α)) : clashN (p :: r) = (if p.kind = 4 then 1 else 0) + clashN r := by
  unfold clashN
  rw [List.countP_cons]
  by_cases h : p.kind = 4
  · simp [h]; omega
  · simp [h]
theorem closed_mem {l : List (List UInt8)} {x : List UInt8} (h : x ∈ closedN l) : x ∈ l ∨ ∃ y ∈ l, x = y ++ [10] := by
  unfold closedN at h
  cases e : l.getLast? with
  | none => rw [e] at h; exact Or.inl h
  | some y =>
    rw [e] at h
    simp only at h
    have hy : y ∈ l := List.mem_of_getLast? e
    split at h
    · exact Or.inl h
    · rcases List.mem_append.1 h with h | h
      · exact Or.inl ((List.dropLast_sublist l).subset h)
      · rw [List.mem_singleton] at h; exact Or.inr ⟨y, hy, h⟩
theorem text_str_len {head foot : List UInt8} {M : List (PartN (List UInt8))} (hh : head.length ≤ 1000) (hf : foot.length ≤ 1000) (hM : ∀ p ∈ M, (∀ x ∈ p.base, x.length ≤ 4194304) ∧ (∀ x ∈ p.ours, x.length ≤ 4194304) ∧ (∀ x ∈ p.theirs, x.length ≤ 4194304)) : ∀ x ∈ textN head foot M, x.length ≤ 4194305 := by
  have hc : ∀ l : List (List UInt8), (∀ x ∈ l, x.length ≤ 4194304) → ∀ x ∈ closedN l, x.length ≤ 4194305 := fun l hl x hx => by
    rcases closed_mem hx with h | ⟨y, hy, rfl⟩
    · have := hl x h; omega
    · have := hl y hy; simp; omega
  intro x hx
  unfold textN at hx
  obtain ⟨p, hp, hx⟩ := List.mem_flatMap.1 hx
  obtain ⟨m1, m2, m3⟩ := hM p hp
  rcases text1_cases head foot p with e | e | e
  · rw [e] at hx; have := m2 x hx; omega
  · rw [e] at hx; have := m3 x hx; omega
  · have hx2 := hx
    unfold text1 at hx2
    split at hx2
    · have := m2 x hx2; omega
    · split at hx2
      · have := m3 x hx2; omega
      · simp only [List.mem_append, List.mem_singleton] at hx2
        rcases hx2 with (((((h | h) | h) | h) | h) | h) | h
        · rw [h]; omega
        · exact hc _ m2 x h
        · rw [h]; decide
        · exact hc _ m1 x h
        · rw [h]; decide
        · exact hc _ m3 x h
        · rw [h]; omega
theorem merge_strs {a b c : List (List UInt8)} (ha : ∀ x ∈ a, x.length ≤ 4194304) (hb : ∀ x ∈ b, x.length ≤ 4194304) (hc : ∀ x ∈ c, x.length ≤ 4194304) : ∀ p ∈ mergeN a b c, (∀ x ∈ p.base, x.length ≤ 4194304) ∧ (∀ x ∈ p.ours, x.length ≤ 4194304) ∧ (∀ x ∈ p.theirs, x.length ≤ 4194304) := by
  obtain ⟨f1, f2, f3⟩ := merge_flat a b c
  exact fun p hp => ⟨fun x hx => ha x (by rw [← f1]; exact List.mem_flatMap.2 ⟨p, hp, hx⟩), fun x hx => hb x (by rw [← f2]; exact List.mem_flatMap.2 ⟨p, hp, hx⟩), fun x hx => hc x (by rw [← f3]; exact List.mem_flatMap.2 ⟨p, hp, hx⟩)⟩
theorem merge_few (a b c : List (List UInt8)) : (mergeN a b c).length ≤ a.length + b.length + c.length := by
  have e := lens_sum (mergeN a b c)
  obtain ⟨f1, f2, f3⟩ := merge_flat a b c
  rw [f1, f2, f3] at e
  rw [← e]
  have hg := good_all (merge_good a b c)
  clear e f1 f2 f3
  generalize mergeN a b c = M at hg ⊢
  induction M with
  | nil => exact Nat.le_refl _
  | cons p r ih =>
    have i1 := ih (fun q hq => hg q (List.mem_cons_of_mem _ hq))
    have h1 := (hg p List.mem_cons_self).2
    have h2 : 1 ≤ p.base.length + p.ours.length + p.theirs.length := by
      rcases Nat.eq_zero_or_pos (p.base.length + p.ours.length + p.theirs.length) with h | h
      · exact absurd ⟨List.length_eq_zero_iff.1 (by omega), List.length_eq_zero_iff.1 (by omega), List.length_eq_zero_iff.1 (by omega)⟩ h1
      · exact h
    rw [List.map_cons, List.sum_cons, List.length_cons]
    omega
def mark7 : List UInt8 := [61, 61, 61, 61, 61, 61, 61, 10]
set_option maxRecDepth 100000 in
set_option maxHeartbeats 8000000 in
theorem wmarks_law (S T R : Nat → Prop) (va vb vc : Value) (ta tb tc : List UInt8) (w : World) (hS : ∀ k, S k → k < w.heap.size) (hT : ∀ k, T k → k < w.heap.size) (hR : ∀ k, R k → k < w.heap.size) (ha : BytesC S w va ta) (hb : BytesC T w vb tb) (hc : BytesC R w vc tc) (hsa : ta.length ≤ 1048576) (hsb : tb.length ≤ 1048576) (hsc : tc.length ≤ 1048576) :
    Calls Try.prog 15 #[va, vb, vc] w (TrueP w) := by
  unfold TrueP
  have HA := Lib.hid (fun (W : World) (h : Below w.heap.size w W) => split_any S va ta W (fun k hk => Nat.lt_of_lt_of_le (hS k hk) h.size) (ha.kept (fun k hk => ⟨hk, h.block k (hS k hk)⟩)) (by omega))
  have HB := Lib.hid (fun (W : World) (h : Below w.heap.size w W) => split_any T vb tb W (fun k hk => Nat.lt_of_lt_of_le (hT k hk) h.size) (hb.kept (fun k hk => ⟨hk, h.block k (hT k hk)⟩)) (by omega))
  have HC := Lib.hid (fun (W : World) (h : Below w.heap.size w W) => split_any R vc tc W (fun k hk => Nat.lt_of_lt_of_le (hR k hk) h.size) (hc.kept (fun k hk => ⟨hk, h.block k (hR k hk)⟩)) (by omega))
  obtain ⟨aa, ac, rfl⟩ := ha.shape
  obtain ⟨ba, bc, rfl⟩ := hb.shape
  obtain ⟨ca, cc, rfl⟩ := hc.shape
  have la := lined_lines ta
  have lb := lined_lines tb
  have lc := lined_lines tc
  have hal : (linesL ta).length ≤ 1048576 := Nat.le_trans (linesL_len ta) hsa
  have hbl : (linesL tb).length ≤ 1048576 := Nat.le_trans (linesL_len tb) hsb
  have hcl : (linesL tc).length ≤ 1048576 := Nat.le_trans (linesL_len tc) hsc
  have HAX : Hid (∀ x ∈ linesL ta, x.length ≤ 4194304) := Lib.hid (fun x hx => by have := linesL_mem ta x hx; omega)
  have HBX : Hid (∀ x ∈ linesL tb, x.length ≤ 4194304) := Lib.hid (fun x hx => by have := linesL_mem tb x hx; omega)
  have HCX : Hid (∀ x ∈ linesL tc, x.length ≤ 4194304) := Lib.hid (fun x hx => by have := linesL_mem tc x hx; omega)
  obtain ⟨a, ha'⟩ : ∃ a, linesL ta = a := ⟨_, rfl⟩
  obtain ⟨b, hb'⟩ : ∃ a, linesL tb = a := ⟨_, rfl⟩
  obtain ⟨c, hc'⟩ : ∃ a, linesL tc = a := ⟨_, rfl⟩
  rw [ha'] at HA la hal HAX
  rw [hb'] at HB lb hbl HBX
  rw [hc'] at HC lc hcl HCX
  have HLN := Lib.hid (merge_lined (head := headN [108]) (foot := footN [114]) rfl rfl la lb lc)
  clear ha hb hc hS hT hR ha' hb' hc' la lb lc
  go_enter Try.func15, Try.ntmps15
  go_wp2_with fail
  refine (awake8_any _).mono ?_
  rintro e w1 ⟨rfl, hb1⟩
  have B1 := Lib.hid hb1
  have hs1 := hb1.size
  clear hb1
  go_wp2_with fail
  refine (HA.out w1 B1.out).mono ?_
  rintro e w2 ⟨v2, rfl, ho2, hb2⟩
  have B2 := Lib.hid (B1.out.trans (hb2.mono hs1))
  have O2 := Lib.hid ((ownS_c ho2).kept (S' := fun k => k < w2.heap.size) (w' := w2) (fun k hk => ⟨hk.2, rfl⟩))
  obtain ⟨a2, c2, rfl⟩ := ownS_slice ho2
  have hs2 := B2.out.size
  clear ho2 hb2
  go_wp2_with fail
  refine (HB.out w2 B2.out).mono ?_
  rintro e w3 ⟨v3, rfl, ho3, hb3⟩
  have B3 := Lib.hid (B2.out.trans (hb3.mono hs2))
  have O3 := Lib.hid ((ownS_c ho3).kept (S' := fun k => k < w3.heap.size) (w' := w3) (fun k hk => ⟨hk.2, rfl⟩))
  have O23 := Lib.hid (O2.out.kept (S' := fun k => k < w3.heap.size) (w' := w3) (fun k hk => ⟨Nat.lt_of_lt_of_le hk hb3.size, hb3.block k hk⟩))
  obtain ⟨a3, c3, rfl⟩ := ownS_slice ho3
  have hs3 := B3.out.size
  clear ho3 hb3 O2
  go_wp2_with fail
  refine (HC.out w3 B3.out).mono ?_
  rintro e w4 ⟨v4, rfl, ho4, hb4⟩
  have B4 := Lib.hid (B3.out.trans (hb4.mono hs3))
  have O4 := Lib.hid ((ownS_c ho4).kept (S' := fun k => k < w4.heap.size) (w' := w4) (fun k hk => ⟨hk.2, rfl⟩))
  have O24 := Lib.hid (O23.out.kept (S' := fun k => k < w4.heap.size) (w' := w4) (fun k hk => ⟨Nat.lt_of_lt_of_le hk hb4.size, hb4.block k hk⟩))
  have O34 := Lib.hid (O3.out.kept (S' := fun k => k < w4.heap.size) (w' := w4) (fun k hk => ⟨Nat.lt_of_lt_of_le hk hb4.size, hb4.block k hk⟩))
  obtain ⟨a4, c4, rfl⟩ := ownS_slice ho4
  have hs4 := B4.out.size
  clear ho4 hb4 O23 O3 HA HB HC B1 B2 B3 hs1 hs2 hs3
  go_wp2_with fail
  refine (small_any _ _ _ _ _ _ _ _ _ w4 (by omega) (by omega) (by omega)).mono ?_
  rintro e w1' ⟨rfl, hw1⟩
  rw [hw1]
  clear hw1 w1'
  by_cases hsm : a.length ≤ 200 ∧ b.length ≤ 200 ∧ c.length ≤ 200
  · have e3 : (decide (a.length ≤ 200) && decide (b.length ≤ 200) && decide (c.length ≤ 200)) = true := by simp [hsm.1, hsm.2.1, hsm.2.2]
    rw [e3]
    obtain ⟨h1, h2, h3⟩ := hsm
    clear e3
    go_wp2_with fail
    refine (merge_any _ _ _ _ _ _ a b c w4 (fun k hk => hk) (fun k hk => hk) (fun k hk => hk) O24.out O34.out O4.out (by omega) (by omega) (by omega) HAX.out HBX.out HCX.out (small_mul (by omega) (by omega)) (small_mul (by omega) (by omega))).mono ?_
    intro e w5 g5
    obtain ⟨a5, c5, rfl, hp5, hb5⟩ := g5.open
    have hln := (merge_len (headN [108]) (footN [114]) a b c).1
    have hgc := good_calm (good_all (merge_good a b c))
    have hcm := clash_marks (headN [108]) (footN [114]) (mergeN a b c)
    have hml := merge_few a b c
    have hstr := merge_strs HAX.out HBX.out HCX.out
    obtain ⟨M, hM⟩ : ∃ M, mergeN a b c = M := ⟨_, rfl⟩
    have HM := Lib.hid hM
    rw [hM] at hp5 hln hgc hcm HLN hml hstr ⊢
    have P5 := Lib.hid hp5
    have B5 := Lib.hid (B4.out.trans (hb5.mono hs4))
    have hs5 := B5.out.size
    clear g5 hp5 hb5 hM O24 O34 O4
    go_wp2_with fail
    refine (aw_bound HM.out.symm P5.out (fun k hk => hk.2) (by omega) HAX.out HBX.out HCX.out [108] [114] (by decide) (by decide)).mono ?_
    rintro e w6 ⟨v6, rfl, ho6, hb6⟩
    obtain ⟨L, hL⟩ : ∃ L, textN (headN [108]) (footN [114]) M = L := ⟨_, rfl⟩
    rw [hL] at ho6 hln HLN hcm
    have hLX : ∀ x ∈ L, x.length ≤ 4194305 := by rw [← hL]; exact text_str_len (by decide) (by decide) hstr
    have HLX := Lib.hid hLX
    have HLN2 := Lib.hid (fun (k : Nat) (x : List UInt8) => lined_at HLN.out (k := k) (x := x))
    have B6 := Lib.hid (B5.out.trans (hb6.mono hs5))
    have hs6 := B6.out.size
    have hs56 := hb6.size
    have O6 := Lib.hid ((ownS_c ho6).kept (S' := fun k => k < w6.heap.size) (w' := w6) (fun k hk => ⟨hk.2, rfl⟩))
    have P6 := Lib.hid (P5.out.kept part_keeps (S' := fun k => k < w6.heap.size) (w' := w6) (fun k hk => ⟨Nat.lt_of_lt_of_le hk.2 hs56, hb6.block k hk.2⟩))
    obtain ⟨a6, c6, rfl⟩ := ownS_slice ho6
    obtain ⟨cl, hcl2⟩ : ∃ cl, clashN M = cl := ⟨_, rfl⟩
    rw [hcl2] at hgc hcm
    obtain ⟨qb, hqb⟩ : ∃ qb, decide (cl = 0) = qb := ⟨_, rfl⟩
    have HQB := Lib.hid hqb
    rw [hgc, hqb]
    have HCL := Lib.hid hcl2
    have HCM := Lib.hid hcm
    have hLl : L.length ≤ 3000 := by omega
    have hMl : M.length ≤ 600 := by omega
    have hcl600 : cl ≤ 600 := by
      have h : clashN M ≤ M.length := List.countP_le_length
      omega
    clear ho6 hb6 P5 hL hLX hgc hcm hcl2 hqb hstr hln hml HLN HM HAX HBX HCX B4 B5
    go_wp2_with fail
    go_loopw [15, 49] (fun cf n wr => ∃ (k q : Nat), k ≤ M.length ∧ n = .int .i64 k ∧ cf = .int .i64 q ∧ q ≤ 600 ∧ Hid (q + clashN (M.drop k) = cl) ∧ Hid (Below w6.heap.size w6 wr)) (fun _ n _ => M.length - (intOf n).toNat)
    case atStart => exact ⟨0, 0, Nat.zero_le _, rfl, rfl, by omega, Lib.hid (by simpa using HCL.out), Lib.hid (Below.refl _ _)⟩
    case round =>
      obtain ⟨k, q, hk, rfl, rfl, hq, hE, hW⟩ := hrel
      by_cases hlt : k < M.length
      · obtain ⟨g, og, rfl, hgS, hgc, hgd, hcs⟩ := part_at (P6.out.kept part_keeps (S' := fun k => k < w6.heap.size) (w' := wr) (fun q hq => ⟨hq, hW.out.block q hq⟩)) (by omega)
        obtain ⟨p, hh⟩ : ∃ p, M[k]? = some p := ⟨_, List.getElem?_eq_getElem hlt⟩
        have hd : M.drop k = p :: M.drop (k + 1) := drop_one hh
        obtain ⟨aba, cba, aou, cou, ath, cth, z0, z1, z2, z3, _, _, _⟩ := hcs k p hh
        have hE2 := hE.out
        rw [hd, clash_cons] at hE2
        have BW := Lib.hid (hW.out.alloc (hW.out.size) (.cells #[.int .i64 p.kind, .slice aba p.base.length cba, .slice aou p.ours.length cou, .slice ath p.theirs.length cth] 73))
        by_cases hk4 : p.kind = 4
        · rw [if_pos hk4] at hE2
          have g4 : (p.kind == 4) = true := by simp [hk4]
          have HE2 : Hid (q + 1 + clashN (M.drop (k + 1)) = cl) := Lib.hid (by omega)
          have hq2 : q + 1 ≤ 600 := by omega
          clear hcs hh hd hE hE2 hk4
          go_wp2_with fail
          go_roundw
          case rel => exact ⟨k + 1, q + 1, by omega, by go_num, by go_num, by omega, HE2, BW⟩
          case measure => simp [intOf]; omega
        · rw [if_neg hk4] at hE2
          have g4 : (p.kind == 4) = false := by simp [hk4]
          have HE2 : Hid (q + clashN (M.drop (k + 1)) = cl) := Lib.hid (by omega)
          clear hcs hh hd hE hE2 hk4
          go_wp2_with fail
          go_roundw
          case rel => exact ⟨k + 1, q, by omega, by go_num, rfl, by omega, HE2, BW⟩
          case measure => simp [intOf]; omega
      · have hqc : q = cl := by
          have h := hE.out
          rw [List.drop_eq_nil_of_le (by omega)] at h
          simpa [clashN] using h
        subst hqc
        have BW := Lib.hid (B6.out.trans (hW.out.mono hs6))
        have O7 := Lib.hid (O6.out.kept (S' := fun k => k < w6.heap.size) (w' := wr) (fun q hq => ⟨hq, hW.out.block q hq⟩))
        clear hE hW O6 P6
        go_wp2_with fail
        go_loopw [14, 61] (fun mk n wx => ∃ (k m : Nat), k ≤ L.length ∧ n = .int .i64 k ∧ mk = .int .i64 m ∧ m ≤ k ∧ wx = wr ∧ Hid (m + (L.drop k).count [61, 61, 61, 61, 61, 61, 61, 10] = L.count [61, 61, 61, 61, 61, 61, 61, 10])) (fun _ n _ => L.length - (intOf n).toNat)
        case atStart => exact ⟨0, 0, Nat.zero_le _, rfl, rfl, Nat.le_refl _, rfl, Lib.hid (by simp)⟩
        case round =>
          obtain ⟨k, m, hk, rfl, rfl, hm, rfl, hE⟩ := hrel
          by_cases hlt : k < L.length
          · obtain ⟨x, hx⟩ : ∃ x, L[k]? = some x := ⟨_, List.getElem?_eq_getElem hlt⟩
            have hd : L.drop k = x :: L.drop (k + 1) := drop_one hx
            obtain ⟨g, og, rfl, hgS, hgc, hgd, hcs⟩ := O7.out.at (by omega)
            have hgx : L.getD k [] = x := by simp [List.getD, hx]
            have c0 := hcs k hlt
            rw [hgx] at c0
            obtain ⟨hne, hend⟩ := HLN2.out k x hx
            have hxl := HLX.out x (List.mem_of_getElem? hx)
            have hE2 := hE.out
            rw [hd, List.count_cons] at hE2
            have HE2 := Lib.hid hE2
            clear hcs hgx hd hx hE2
            have hlast2 : ∃ yn c, x.length = yn + 1 ∧ x[yn]? = some c ∧ x.getLast? = some c := by
              obtain ⟨y, c, rfl⟩ : ∃ y c, x = y ++ [c] := ⟨x.dropLast, x.getLast hne, (List.dropLast_concat_getLast hne).symm⟩
              exact ⟨y.length, c, by simp, by simp, by simp⟩
            obtain ⟨yn, ch, hyl, hci, hlast⟩ := hlast2
            rw [hlast] at hend
            have hyb : yn ≤ 4194304 := by omega
            have hyx : yn < x.length := by omega
            have hxe := idx_eq x yn hyx
            rw [List.getElem?_eq_getElem hyx] at hci
            injection hci with hci
            have hwx : (x.length : Int) - 1 = (yn : Int) := by omega
            have hnb : (x == []) = false := by simpa using hne
            have hie : x.isEmpty = false := by simpa using hne
            have hbd : k ≤ 3000 := by omega
            clear hne hlast hyl
            have hcc : ((ch.toNat : Int) != 10) = false ∨ (((ch.toNat : Int) != 10) = true ∧ (L.length : Int) - 1 = (k : Int)) := by
              rcases hend with h | h
              · injection h with h
                left; rw [h]; rfl
              · by_cases h2 : ch = 10
                · left; rw [h2]; rfl
                · right
                  refine ⟨?_, by omega⟩
                  rw [bne_iff_ne]
                  intro e
                  exact h2 (UInt8.toNat_inj.1 (by rw [show ((10 : UInt8).toNat) = 10 from rfl]; omega))
            clear hend
            have hmk : (x == [61, 61, 61, 61, 61, 61, 61, 10]) = true ∨ (x == [61, 61, 61, 61, 61, 61, 61, 10]) = false := by cases (x == [61, 61, 61, 61, 61, 61, 61, 10]) <;> simp
            rcases hcc with e1 | ⟨e1, e2⟩ <;> rcases hmk with mk | mk
            all_goals
              go_wp2_with fail
              go_roundw
              case rel =>
                first
                  | exact ⟨k + 1, m + 1, by omega, by go_num, by go_num, by omega, (by first | rfl | trivial), Lib.hid (by have h := HE2.out; rw [mk, if_pos rfl] at h; omega)⟩
                  | exact ⟨k + 1, m, by omega, by go_num, rfl, by omega, (by first | rfl | trivial), Lib.hid (by have h := HE2.out; rw [mk] at h; simpa using h)⟩
              case measure => simp [intOf]; omega
          · have hmc : m = L.count [61, 61, 61, 61, 61, 61, 61, 10] := by
              have h := hE.out
              rw [List.drop_eq_nil_of_le (by omega)] at h
              simpa using h
            have hge : (q : Int) ≤ (m : Int) := by have := HCM.out; omega
            have gz : ((q : Int) == 0) = qb := by
              rw [← HQB.out]
              by_cases h : q = 0
              · subst h; rfl
              · rw [decide_eq_false h, beq_eq_false_iff_ne]; omega
            clear hmc hE
            go_wp2_with fail
            go_ret
            exact ⟨by simp, BW.out⟩
  · have e3 : (decide (a.length ≤ 200) && decide (b.length ≤ 200) && decide (c.length ≤ 200)) = false := by
      rw [Bool.and_eq_false_iff, Bool.and_eq_false_iff, decide_eq_false_iff_not, decide_eq_false_iff_not, decide_eq_false_iff_not]; omega
    rw [e3]
    go_wp2_with fail
    go_ret
    exact ⟨rfl, B4.out⟩
end Go.Proofs.Ytfiogjdjcocbnaa
