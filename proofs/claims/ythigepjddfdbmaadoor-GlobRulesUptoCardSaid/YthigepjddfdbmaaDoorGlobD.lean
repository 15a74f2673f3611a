/- The reader's set and sign. -/
import Derived.Test.YthigepjddfdbmaaDoorGlobC
namespace Go.Proofs.YthigepjddfdbmaaDoor
open Go.RowKit Go.Lib

theorem setGo_succ (n : Nat) (s : S4) (t : Txt) : setGo (n + 1) s t = if ([93] : Txt).isPrefixOf t = true then some (s, t.drop 1) else match spanN t with
    | none => none
    | some ((x, y), r) => setGo n (addUp s x (y + 1 - x)) r := rfl
theorem setGo_ok : ∀ (n : Nat) (s s2 : S4) (t r : Txt), s.Ok → setGo n s t = some (s2, r) → s2.Ok
  | 0, _, _, _, _, _, h => by cases h
  | n + 1, s, s2, t, r, hs, h => by
    unfold setGo at h
    split at h
    · injection h with h; injection h with h _; subst h; exact hs
    · split at h
      · cases h
      · rename_i x y r1 hsp
        have h1 := (span_len hsp).2
        exact setGo_ok n _ _ _ _ (addUp_ok hs _ (by omega)) h
theorem set_ok {t r : Txt} {s : S4} (h : setN t = some (s, r)) : s.Ok := by
  unfold setN at h
  split at h
  · cases h
  · rename_i x y r1 hsp
    have h1 := (span_len hsp).2
    split at h
    · cases h
    · rename_i s1 r2 hg
      have h2 := setGo_ok _ _ _ _ _ (addUp_ok none_ok _ (by omega)) hg
      injection h with h; injection h with h _; subst h
      split
      · exact others_ok _
      · exact h2
theorem sign_ok {t r : Txt} {s : S4} (h : signN t = some (some s, r)) : s.Ok := by
  unfold signN at h
  split at h
  · cases h
  · rename_i c t
    split at h
    · injection h with h; injection h with h _; cases h
    · split at h
      · injection h with h; injection h with h _; injection h with h; subst h; exact others_ok _
      · split at h
        · split at h
          · cases h
          · rename_i s r2 hs
            injection h with h; injection h with h _; injection h with h; subst h
            exact set_ok hs
        · split at h
          · split at h
            · cases h
            · rename_i d r2
              injection h with h; injection h with h _; injection h with h; subst h
              exact addOne_ok none_ok d.toNat_lt
          · injection h with h; injection h with h _; injection h with h; subst h
            exact addOne_ok none_ok c.toNat_lt
def setV (s : S4) : Value := .agg s.cells.toArray
/-- How long the text is that a cell holds. -/
def textLen (rb : Nat) (w : World) : Nat := match w.cell? ⟨rb, 0, none⟩ with
  | some (.string s) => s.size
  | _ => 0
theorem RdAt.len {w : World} {rb : Nat} {t : Txt} (h : RdAt w rb t) : textLen rb w = t.length := by
  unfold textLen; rw [h.c]; rfl
theorem RdAt.far {w : World} {rb b o : Nat} {t : Txt} (h : RdAt w rb t) (hne : b ≠ rb) (v : Value) : RdAt (w.setCell ⟨b, o, none⟩ v) rb t :=
  ⟨(World.cell?_setCell_other _ _ _ _ (by intro c; injection c with c _ _; exact hne c)).trans h.c, by rw [World.frozen?_setCell]; exact h.f, by simpa using h.lt⟩
theorem gb_far {w W : World} {row : Option Nat} (h : w.grownBy W row) {b : Nat} (hb : w.heap.size ≤ b) (o : Nat) (v : Value) : w.grownBy (W.setCell ⟨b, o, none⟩ v) row :=
  ⟨h.os, h.tape, h.output, by simpa [World.setCell] using h.size, fun i hi hne => (Below.heap_setCell _ _ _ _ (by show i ≠ b; omega)).trans (h.block i hi hne)⟩
/-- Four words stored in a block of the call's own, behind what was read. -/
theorem set4_keeps {w W : World} {rb rs : Nat} {t : Txt} (hr : RdAt W rb t) (hg : w.grownBy W (some rb)) (hne : rs ≠ rb) (hb : w.heap.size ≤ rs) (v0 v1 v2 v3 : Value) :
    RdAt ((((W.setCell ⟨rs, 0, none⟩ v0).setCell ⟨rs, 1, none⟩ v1).setCell ⟨rs, 2, none⟩ v2).setCell ⟨rs, 3, none⟩ v3) rb t ∧ w.grownBy ((((W.setCell ⟨rs, 0, none⟩ v0).setCell ⟨rs, 1, none⟩ v1).setCell ⟨rs, 2, none⟩ v2).setCell ⟨rs, 3, none⟩ v3) (some rb) :=
  ⟨(((hr.far hne _).far hne _).far hne _).far hne _, gb_far (gb_far (gb_far (gb_far hg hb _ _) hb _ _) hb _ _) hb _ _⟩
/-- While a set is read. -/
structure SetSt (w : World) (rb rs sb : Nat) (s : S4) (t : Txt) (W : World) : Prop where
  rd : RdAt W rb t
  sa : SAt W sb 0 s
  res : W.heap[rs]? = some (.cells noneS.cells.toArray 98 (0, 0))
  gr : w.grownBy W (some rb)
  l1 : rs < W.heap.size
  l2 : sb < W.heap.size
  n1 : rs ≠ rb
  n2 : sb ≠ rb
  n3 : sb ≠ rs
  g1 : w.heap.size ≤ rs
  g2 : w.heap.size ≤ sb
theorem SetSt.read {w W W' : World} {rb rs sb : Nat} {s : S4} {t t' : Txt} (h : SetSt w rb rs sb s t W) (hr : RdAt W' rb t') (hg : W.grownBy W' (some rb)) : SetSt w rb rs sb s t' W' := by
  have hs := hg.block sb h.l2 (fun e => h.n2 (by injection e))
  exact ⟨hr, ⟨fun j u hj => (World.cell?_of_block (w := W) hs).trans (h.sa.cs j u hj), fun j => (World.frozen?_of_block (w := W) hs).trans (h.sa.fr j)⟩, (hg.block rs h.l1 (fun e => h.n1 (by injection e))).trans h.res, gb_trans h.gr hg, Nat.lt_of_lt_of_le h.l1 hg.size, Nat.lt_of_lt_of_le h.l2 hg.size, h.n1, h.n2, h.n3, h.g1, h.g2⟩
theorem SetSt.added {w W W' : World} {rb rs sb : Nat} {s s' : S4} {t : Txt} (h : SetSt w rb rs sb s t W) (hs : SAt W' sb 0 s') (ht : Touch sb 0 4 W W') : SetSt w rb rs sb s' t W' := by
  have hr := ht.far rb (Ne.symm h.n2)
  refine ⟨⟨(World.cell?_of_block (w := W) hr).trans h.rd.c, (World.frozen?_of_block (w := W) hr).trans h.rd.f, by rw [ht.size]; exact h.rd.lt⟩, hs, (ht.far rs (Ne.symm h.n3)).trans h.res, ?_, by rw [ht.size]; exact h.l1, by rw [ht.size]; exact h.l2, h.n1, h.n2, h.n3, h.g1, h.g2⟩
  have h2 := h.g2
  exact ⟨ht.os.trans h.gr.os, ht.tape.trans h.gr.tape, ht.output.trans h.gr.output, by rw [ht.size]; exact h.gr.size, fun i hi hne => (ht.far i (by omega)).trans (h.gr.block i hi hne)⟩
set_option maxRecDepth 100000 in
set_option maxHeartbeats 4000000 in
theorem set_any (rb : Nat) (t : Txt) (w : World) (h : RdAt w rb t) (hl : t.length ≤ 4194304) :
    Calls Tryd.prog 68 #[.pointer (some ⟨rb, 0, none⟩)] w (Gives setV rb w (setN t)) := by
  have hst : Hid (SetSt w rb w.heap.size (w.heap.size + 1) noneS t ((w.alloc (.cells #[.int .u64 0, .int .u64 0, .int .u64 0, .int .u64 0] 98)).alloc (.cells #[.int .u64 0, .int .u64 0, .int .u64 0, .int .u64 0] 98))) := Lib.hid (by
    have hlt := h.lt
    have e : (w.alloc (.cells #[.int .u64 0, .int .u64 0, .int .u64 0, .int .u64 0] 98)).heap.size = w.heap.size + 1 := by simp
    have hb : Below w.heap.size w ((w.alloc (.cells #[.int .u64 0, .int .u64 0, .int .u64 0, .int .u64 0] 98)).alloc (.cells #[.int .u64 0, .int .u64 0, .int .u64 0, .int .u64 0] 98)) := ((Below.refl _ w).alloc (Nat.le_refl _) _).alloc (by simp) _
    have hs := SAt.of_new (w := w.alloc (.cells #[.int .u64 0, .int .u64 0, .int .u64 0, .int .u64 0] 98)) (s := noneS)
    rw [e] at hs
    exact ⟨h.below hb, hs, (Below.heap_alloc _ _ _ (by simp)).trans (new_five w _ _), gb_below hb _, by simp; omega, by simp, by omega, by omega, by omega, Nat.le_refl _, by omega⟩)
  have hm : setN t = match spanN (if ([33] : Txt).isPrefixOf t = true then t.drop 1 else t) with
    | none => none
    | some ((x, y), r) => match setGo (r.length + 1) (addUp noneS x (y + 1 - x)) r with
      | none => none
      | some (s, r2) => some (if ([33] : Txt).isPrefixOf t = true then othersS s else s, r2) := rfl
  generalize setN t = R at *
  have HM := Lib.hid hm
  have HRB : Hid (rb < w.heap.size) := Lib.hid h.lt
  clear hm h
  go_enter Tryd.func68, Tryd.ntmps68
  go_wp2_with fail
  generalize (w.alloc (.cells #[.int .u64 0, .int .u64 0, .int .u64 0, .int .u64 0] 98)).alloc (.cells #[.int .u64 0, .int .u64 0, .int .u64 0, .int .u64 0] 98) = w0 at *
  obtain ⟨rs, hrs⟩ : ∃ q, w.heap.size = q := ⟨_, rfl⟩
  obtain ⟨sb, hsb⟩ : ∃ q, rs + 1 = q := ⟨_, rfl⟩
  have HRS := Lib.hid hrs
  rw [hrs, hsb] at hst ⊢
  clear hrs hsb
  -- with what it goes on behind a !
  have key : ∃ (ot : Bool) (t1 : Txt), ([33] : Txt).isPrefixOf t = ot ∧ (if ([33] : Txt).isPrefixOf t = true then t.drop 1 else t) = t1 ∧ t1.length ≤ 4194304 ∧ Calls Tryd.prog 74 #[.pointer (some ⟨rb, 0, none⟩), .string ⟨#[33]⟩] w0 fun e w' => e = .returned (.bool ot) ∧ RdAt w' rb t1 ∧ w0.grownBy w' (some rb) := by
    by_cases hp : ([33] : Txt).isPrefixOf t = true
    · exact ⟨true, t.drop 1, hp, if_pos hp, by rw [List.length_drop]; omega, take_yes rb t [33] w0 hst.out.rd hp⟩
    · exact ⟨false, t, by rw [← Bool.not_eq_true]; exact hp, if_neg hp, hl, take_no rb t [33] w0 hst.out.rd (by rw [← Bool.not_eq_true]; exact hp)⟩
  obtain ⟨ot, t1, k1, k2, k3, k4⟩ := key
  have K4 := Lib.hid k4
  have hm := HM.out
  rw [k2, k1] at hm
  have HM1 := Lib.hid hm
  clear hm HM k1 k2 k4
  refine K4.out.mono ?_
  rintro e w1 ⟨rfl, hr1, hg1⟩
  have S1 := Lib.hid (hst.out.read hr1 hg1)
  have hsp := span_any rb t1 w1 hr1 k3
  have HSL := Lib.hid (fun x y r => span_len (t := t1) (x := x) (y := y) (r := r))
  generalize spanN t1 = res at *
  have HSP := Lib.hid hsp
  clear hsp hr1 hg1 hst K4
  go_wp2_with fail
  refine HSP.out.mono ?_
  intro e w2 h2
  cases res with
  | none =>
    obtain ⟨rfl, hg⟩ := h2
    have HE : Hid (R = none) := HM1
    go_wp2_with fail
    rw [HE.out]
    exact ⟨rfl, rfl, gb_trans S1.out.gr hg⟩
  | some p =>
    obtain ⟨⟨x, y⟩, r⟩ := p
    obtain ⟨he, hr2, hg2⟩ := h2
    obtain ⟨q1, q2, q3⟩ := HSL.out x y r rfl
    have HM2 : Hid (R = match setGo (r.length + 1) (addUp noneS x (y + 1 - x)) r with
      | none => none
      | some (s, r2) => some (if ot = true then othersS s else s, r2)) := HM1
    unfold spanV at he
    simp only at he
    subst he
    have S2 := Lib.hid (S1.out.read hr2 hg2)
    have HAD := Lib.hid (add_any sb 0 noneS x y w2 none_ok S2.out.sa (by omega) q3)
    have hok := addUp_ok none_ok (x := x) (y + 1 - x) (by omega)
    have HGL := Lib.hid (fun s2 r2 => setGo_len (r.length + 1) (addUp noneS x (y + 1 - x)) s2 r r2)
    have HGO := Lib.hid (fun s2 r2 => setGo_ok (r.length + 1) (addUp noneS x (y + 1 - x)) s2 r r2 hok)
    have hrl : r.length ≤ 4194304 := by omega
    generalize hn0 : r.length + 1 = n0 at *
    have HN0 : Hid (r.length < n0) := Lib.hid (by omega)
    clear hn0 hr2 hg2 S1 HM1 HSL HSP
    go_wp2_with fail
    refine HAD.out.mono ?_
    rintro e w3 ⟨rfl, a3, t3⟩
    have S3 := Lib.hid (S2.out.added a3 t3)
    have HOK := Lib.hid hok
    clear a3 t3 S2 HAD hok
    generalize addUp noneS x (y + 1 - x) = s0 at *
    obtain ⟨G, hG⟩ : ∃ G, setGo n0 s0 r = G := ⟨_, rfl⟩
    have hm2 := HM2.out
    have hgl := HGL.out
    have hgo := HGO.out
    rw [hG] at hm2 hgl hgo
    have HM3 := Lib.hid hm2
    have HGL3 := Lib.hid hgl
    have HGO3 := Lib.hid hgo
    have HG := Lib.hid hG
    clear hm2 hgl hgo hG HM2 HGL HGO q1 q2 q3
    go_wp2_with fail
    go_loopw [] (fun wr => ∃ (n : Nat) (s : S4) (u : Txt), Hid (setGo n s u = G) ∧ Hid (u.length < n) ∧ u.length ≤ 4194304 ∧ Hid s.Ok ∧ Hid (SetSt w rb rs sb s u wr)) (fun wr => textLen rb wr)
    case atStart => exact ⟨n0, s0, r, HG, HN0, hrl, HOK, S3⟩
    case round =>
      obtain ⟨n, s, u, hE, hN, hul, hOk, hS⟩ := hrel
      obtain ⟨m, hm⟩ : ∃ m, n = m + 1 := ⟨n - 1, by have := hN.out; omega⟩
      subst hm
      by_cases hp : ([93] : Txt).isPrefixOf u = true
      · have HT := Lib.hid (take_yes rb u [93] wr hS.out.rd hp)
        have HGE : Hid (G = some (s, u.drop 1)) := Lib.hid (by rw [← hE.out, setGo_succ, if_pos hp])
        clear hp
        go_wp2_with fail
        refine HT.out.mono ?_
        rintro e w4 ⟨rfl, hr4, hg4⟩
        have S4' := Lib.hid (hS.out.read hr4 hg4)
        have HRE : Hid (R = some (if ot = true then othersS s else s, u.drop 1)) := Lib.hid (by rw [HM3.out, HGE.out])
        have c0 := S4'.out.sa.cs 0 _ rfl
        have c1 := S4'.out.sa.cs 1 _ rfl
        have c2 := S4'.out.sa.cs 2 _ rfl
        have c3 := S4'.out.sa.cs 3 _ rfl
        clear hr4 hg4 hS HT
        cases ot
        · have r := S4'.out.res
          have r0 : w4.cell? ⟨rs, 0, none⟩ = some (.int .u64 0) := by rw [cell_of_row _ _ _ _ _ _ r]; rfl
          have r1 : w4.cell? ⟨rs, 1, none⟩ = some (.int .u64 0) := by rw [cell_of_row _ _ _ _ _ _ r]; rfl
          have r2 : w4.cell? ⟨rs, 2, none⟩ = some (.int .u64 0) := by rw [cell_of_row _ _ _ _ _ _ r]; rfl
          have r3 : w4.cell? ⟨rs, 3, none⟩ = some (.int .u64 0) := by rw [cell_of_row _ _ _ _ _ _ r]; rfl
          have f0 := frozen_box r 0
          have f1 := frozen_box r 1
          have f2 := frozen_box r 2
          have f3 := frozen_box r 3
          have HRE2 : Hid (R = some (s, u.drop 1)) := HRE
          clear r
          go_wp2_with fail
          obtain ⟨z0, z1, z2, z3⟩ := set4_cells r0 r1 r2 r3 (.int .u64 (s.a : Int)) (.int .u64 (s.b : Int)) (.int .u64 (s.c : Int)) (.int .u64 (s.d : Int))
          refine bodyPost_ret (v := .agg #[.int .u64 (s.a : Int), .int .u64 (s.b : Int), .int .u64 (s.c : Int), .int .u64 (s.d : Int)]) (by simp [results, Tryd.results68, go_sem, z0, z1, z2, z3]) rfl ?_
          rw [HRE2.out]
          exact ⟨rfl, set4_keeps S4'.out.rd S4'.out.gr S4'.out.n1 S4'.out.g1 _ _ _ _⟩
        · have HOT := Lib.hid (others_any s w4 hOk.out)
          have HRE2 : Hid (R = some (othersS s, u.drop 1)) := HRE
          unfold S4.cells at HOT
          go_wp2_with fail
          refine HOT.out.mono ?_
          generalize othersS s = s2 at *
          rintro e w5 ⟨rfl, hb5⟩
          have r := (hb5.block rs S4'.out.l1).trans S4'.out.res
          have r0 : w5.cell? ⟨rs, 0, none⟩ = some (.int .u64 0) := by rw [cell_of_row _ _ _ _ _ _ r]; rfl
          have r1 : w5.cell? ⟨rs, 1, none⟩ = some (.int .u64 0) := by rw [cell_of_row _ _ _ _ _ _ r]; rfl
          have r2 : w5.cell? ⟨rs, 2, none⟩ = some (.int .u64 0) := by rw [cell_of_row _ _ _ _ _ _ r]; rfl
          have r3 : w5.cell? ⟨rs, 3, none⟩ = some (.int .u64 0) := by rw [cell_of_row _ _ _ _ _ _ r]; rfl
          have f0 := frozen_box r 0
          have f1 := frozen_box r 1
          have f2 := frozen_box r 2
          have f3 := frozen_box r 3
          have HRD5 := Lib.hid (S4'.out.rd.below hb5)
          have HG5 := Lib.hid (gb_trans S4'.out.gr (gb_below hb5 _))
          clear r hb5 c0 c1 c2 c3
          go_wp2_with fail
          obtain ⟨z0, z1, z2, z3⟩ := set4_cells r0 r1 r2 r3 (.int .u64 (s2.a : Int)) (.int .u64 (s2.b : Int)) (.int .u64 (s2.c : Int)) (.int .u64 (s2.d : Int))
          refine bodyPost_ret (v := .agg #[.int .u64 (s2.a : Int), .int .u64 (s2.b : Int), .int .u64 (s2.c : Int), .int .u64 (s2.d : Int)]) (by simp [results, Tryd.results68, go_sem, z0, z1, z2, z3]) rfl ?_
          rw [HRE2.out]
          exact ⟨rfl, set4_keeps HRD5.out HG5.out S4'.out.n1 S4'.out.g1 _ _ _ _⟩
      · have hp' : ([93] : Txt).isPrefixOf u = false := by rw [← Bool.not_eq_true]; exact hp
        have HT := Lib.hid (take_no rb u [93] wr hS.out.rd hp')
        have hge : G = match spanN u with
            | none => none
            | some ((x, y), r) => setGo m (addUp s x (y + 1 - x)) r := by rw [← hE.out, setGo_succ, if_neg hp]
        have HLR : Hid (textLen rb wr = u.length) := Lib.hid hS.out.rd.len
        have HSL := Lib.hid (fun x y r => span_len (t := u) (x := x) (y := y) (r := r))
        have HSP := Lib.hid (fun W hW => span_any rb u W hW hul)
        generalize spanN u = res at *
        have HGE := Lib.hid hge
        clear hp hp' hge
        go_wp2_with fail
        refine HT.out.mono ?_
        rintro e w4 ⟨rfl, hr4, hg4⟩
        have S4' := Lib.hid (hS.out.read hr4 hg4)
        clear hr4 hg4 hS HT
        go_wp2_with fail
        refine (HSP.out w4 S4'.out.rd).mono ?_
        intro e w5 h5
        cases res with
        | none =>
          obtain ⟨rfl, hg⟩ := h5
          have HGE2 : Hid (G = none) := HGE
          have HRE : Hid (R = none) := Lib.hid (by rw [HM3.out, HGE2.out])
          go_wp2_with fail
          rw [HRE.out]
          exact ⟨rfl, rfl, gb_trans S4'.out.gr hg⟩
        | some p =>
          obtain ⟨⟨x, y⟩, r2⟩ := p
          obtain ⟨he, hr5, hg5⟩ := h5
          obtain ⟨q1, q2, q3⟩ := HSL.out x y r2 rfl
          have HGE2 : Hid (G = setGo m (addUp s x (y + 1 - x)) r2) := HGE
          unfold spanV at he
          simp only at he
          subst he
          have S5 := Lib.hid (S4'.out.read hr5 hg5)
          have HAD := Lib.hid (add_any sb 0 s x y w5 hOk.out S5.out.sa (by omega) q3)
          have HOK5 := Lib.hid (addUp_ok hOk.out (x := x) (y + 1 - x) (by omega))
          have HN5 : Hid (r2.length < m) := Lib.hid (by have := hN.out; omega)
          have HUL : Hid (r2.length < u.length) := Lib.hid q1
          have hr2l : r2.length ≤ 4194304 := by omega
          clear hr5 hg5 S4' HGE HSP HSL q1 q2 q3
          generalize addUp s x (y + 1 - x) = s5 at *
          go_wp2_with fail
          refine HAD.out.mono ?_
          rintro e w6 ⟨rfl, a6, t6⟩
          have S6 := Lib.hid (S5.out.added a6 t6)
          clear a6 t6 S5 HAD
          go_wp2_with fail
          go_roundw
          case rel => exact ⟨m, s5, r2, Lib.hid HGE2.out.symm, HN5, hr2l, HOK5, S6⟩
          case measure => rw [HLR.out, S6.out.rd.len]; exact HUL.out
/-- A sign's cells. -/
def signCells (x : Option S4) : List Value := match x with
  | none => [.bool true, .int .u64 0, .int .u64 0, .int .u64 0, .int .u64 0]
  | some s => [.bool false, .int .u64 (s.a : Int), .int .u64 (s.b : Int), .int .u64 (s.c : Int), .int .u64 (s.d : Int)]
theorem signV_cells (x : Option S4) : signV x = .agg (signCells x).toArray := by cases x <;> rfl
theorem set5_keeps {w W : World} {rb rs : Nat} {t : Txt} (hr : RdAt W rb t) (hg : w.grownBy W (some rb)) (hne : rs ≠ rb) (hb : w.heap.size ≤ rs) (v0 v1 v2 v3 v4 : Value) :
    RdAt (((((W.setCell ⟨rs, 0, none⟩ v0).setCell ⟨rs, 1, none⟩ v1).setCell ⟨rs, 2, none⟩ v2).setCell ⟨rs, 3, none⟩ v3).setCell ⟨rs, 4, none⟩ v4) rb t ∧ w.grownBy (((((W.setCell ⟨rs, 0, none⟩ v0).setCell ⟨rs, 1, none⟩ v1).setCell ⟨rs, 2, none⟩ v2).setCell ⟨rs, 3, none⟩ v3).setCell ⟨rs, 4, none⟩ v4) (some rb) :=
  ⟨((((hr.far hne _).far hne _).far hne _).far hne _).far hne _, gb_far (gb_far (gb_far (gb_far (gb_far hg hb _ _) hb _ _) hb _ _) hb _ _) hb _ _⟩
/-- While a sign is read: its cell, and what is left to read. -/
structure SgSt (w : World) (rb rs : Nat) (t : Txt) (W : World) : Prop where
  rd : RdAt W rb t
  res : W.heap[rs]? = some (.cells #[.bool false, .int .u64 0, .int .u64 0, .int .u64 0, .int .u64 0] 100 (0, 0))
  gr : w.grownBy W (some rb)
  l1 : rs < W.heap.size
  n1 : rs ≠ rb
  g1 : w.heap.size ≤ rs
theorem SgSt.read {w W W' : World} {rb rs : Nat} {t t' : Txt} (h : SgSt w rb rs t W) (hr : RdAt W' rb t') (hg : W.grownBy W' (some rb)) : SgSt w rb rs t' W' :=
  ⟨hr, (hg.block rs h.l1 (fun e => h.n1 (by injection e))).trans h.res, gb_trans h.gr hg, Nat.lt_of_lt_of_le h.l1 hg.size, h.n1, h.g1⟩
theorem SgSt.on {w W W' : World} {rb rs : Nat} {t : Txt} (h : SgSt w rb rs t W) (hb : Below W.heap.size W W') : SgSt w rb rs t W' := h.read (h.rd.below hb) (gb_below hb _)
theorem SgSt.cells {w W : World} {rb rs : Nat} {t : Txt} (h : SgSt w rb rs t W) : (W.cell? ⟨rs, 0, none⟩ = some (.bool false) ∧ W.cell? ⟨rs, 1, none⟩ = some (.int .u64 0) ∧ W.cell? ⟨rs, 2, none⟩ = some (.int .u64 0) ∧ W.cell? ⟨rs, 3, none⟩ = some (.int .u64 0) ∧ W.cell? ⟨rs, 4, none⟩ = some (.int .u64 0)) ∧ ∀ j, W.frozen? ⟨rs, j, none⟩ = false :=
  ⟨⟨by rw [cell_of_row _ _ _ _ _ _ h.res]; rfl, by rw [cell_of_row _ _ _ _ _ _ h.res]; rfl, by rw [cell_of_row _ _ _ _ _ _ h.res]; rfl, by rw [cell_of_row _ _ _ _ _ _ h.res]; rfl, by rw [cell_of_row _ _ _ _ _ _ h.res]; rfl⟩, fun j => frozen_box h.res j⟩
set_option maxRecDepth 100000 in
set_option maxHeartbeats 4000000 in
theorem rsign_any (rb : Nat) (t : Txt) (w : World) (h : RdAt w rb t) (hl : t.length ≤ 4194304) :
    Calls Tryd.prog 58 #[.pointer (some ⟨rb, 0, none⟩)] w (Gives signV rb w (signN t)) := by
  have hst : Hid (SgSt w rb w.heap.size t (w.alloc (.cells #[.bool false, .int .u64 0, .int .u64 0, .int .u64 0, .int .u64 0] 100))) := Lib.hid (by
    have hlt := h.lt
    have hb : Below w.heap.size w (w.alloc (.cells #[.bool false, .int .u64 0, .int .u64 0, .int .u64 0, .int .u64 0] 100)) := (Below.refl _ w).alloc (Nat.le_refl _) _
    exact ⟨h.below hb, new_five w _ _, gb_below hb _, by simp, by omega, Nat.le_refl _⟩)
  have hm : ∀ c r, t = c :: r → signN t = if c = 42 then some (none, r) else if c = 63 then some (some (othersS noneS), r) else if c = 91 then
      (match setN r with
      | none => none
      | some (s, r2) => some (some s, r2))
    else if c = 92 then (match r with
      | [] => none
      | d :: r2 => some (some (addOne noneS d.toNat), r2))
    else some (some (addOne noneS c.toNat), r) := fun c r e => by subst e; rfl
  have hm0 : t = [] → signN t = none := fun e => by subst e; rfl
  generalize signN t = R at *
  have HM := Lib.hid hm
  have HM0 := Lib.hid hm0
  clear hm hm0 h
  go_enter Tryd.func58, Tryd.ntmps58
  go_wp2_with fail
  generalize w.alloc (.cells #[.bool false, .int .u64 0, .int .u64 0, .int .u64 0, .int .u64 0] 100) = w0 at *
  obtain ⟨rs, hrs⟩ : ∃ q, w.heap.size = q := ⟨_, rfl⟩
  rw [hrs] at hst ⊢
  clear hrs
  refine (next_any rb t w0 hst.out.rd hl).mono ?_
  intro e w1 h1
  cases t with
  | nil =>
    obtain ⟨rfl, hg⟩ := h1
    have HE := Lib.hid (HM0.out rfl)
    go_wp2_with fail
    rw [HE.out]
    exact ⟨rfl, rfl, gb_trans hst.out.gr hg⟩
  | cons c r =>
    obtain ⟨he, hr1, hg1⟩ := h1
    unfold byteV at he
    subst he
    have S1 := Lib.hid (hst.out.read hr1 hg1)
    have HR := Lib.hid (HM.out c r rfl)
    have hrl : r.length ≤ 4194304 := by simp at hl; omega
    have hc256 := c.toNat_lt
    have HC := Lib.hid hc256
    clear hr1 hg1 hst HM HM0 hc256
    by_cases h42 : c = 42
    · have g1 : ((c.toNat : Int) == 42) = true := byte_t c 42 (by omega) 42 rfl h42
      have HE : Hid (R = some (none, r)) := Lib.hid (by rw [HR.out, if_pos h42])
      obtain ⟨⟨r0, r1, r2, r3, r4⟩, ff⟩ := S1.out.cells
      have f0 := ff 0
      have f1 := ff 1
      have f2 := ff 2
      have f3 := ff 3
      have f4 := ff 4
      clear h42 HR ff
      generalize c.toNat = cn at *
      go_wp2_with fail
      obtain ⟨z0, z1, z2, z3, z4⟩ := set5_cells r0 r1 r2 r3 r4 (.bool true) (.int .u64 0) (.int .u64 0) (.int .u64 0) (.int .u64 0)
      refine bodyPost_ret (v := .agg #[.bool true, .int .u64 0, .int .u64 0, .int .u64 0, .int .u64 0]) (by simp [results, Tryd.results58, go_sem, z0, z1, z2, z3, z4]) rfl ?_
      rw [HE.out]
      exact ⟨rfl, set5_keeps S1.out.rd S1.out.gr S1.out.n1 S1.out.g1 _ _ _ _ _⟩
    have g1 : ((c.toNat : Int) == 42) = false := byte_f c 42 (by omega) 42 rfl h42
    by_cases h63 : c = 63
    · have g2 : ((c.toNat : Int) == 63) = true := byte_t c 63 (by omega) 63 rfl h63
      have HE : Hid (R = some (some (othersS noneS), r)) := Lib.hid (by rw [HR.out, if_neg h42, if_pos h63])
      have HOT := Lib.hid (others_any noneS w1 none_ok)
      unfold S4.cells at HOT
      clear h42 h63 HR
      generalize c.toNat = cn at *
      go_wp2_with fail
      refine HOT.out.mono ?_
      generalize othersS noneS = s2 at *
      rintro e w5 ⟨rfl, hb5⟩
      have S5 := Lib.hid (S1.out.on hb5)
      obtain ⟨⟨r0, r1, r2, r3, r4⟩, ff⟩ := S5.out.cells
      have f0 := ff 0
      have f1 := ff 1
      have f2 := ff 2
      have f3 := ff 3
      have f4 := ff 4
      clear ff hb5
      go_wp2_with fail
      obtain ⟨z0, z1, z2, z3, z4⟩ := set5_cells r0 r1 r2 r3 r4 (.bool false) (.int .u64 (s2.a : Int)) (.int .u64 (s2.b : Int)) (.int .u64 (s2.c : Int)) (.int .u64 (s2.d : Int))
      refine bodyPost_ret (v := .agg #[.bool false, .int .u64 (s2.a : Int), .int .u64 (s2.b : Int), .int .u64 (s2.c : Int), .int .u64 (s2.d : Int)]) (by simp [results, Tryd.results58, go_sem, z0, z1, z2, z3, z4]) rfl ?_
      rw [HE.out]
      exact ⟨rfl, set5_keeps S5.out.rd S5.out.gr S5.out.n1 S5.out.g1 _ _ _ _ _⟩
    have g2 : ((c.toNat : Int) == 63) = false := byte_f c 63 (by omega) 63 rfl h63
    by_cases h91 : c = 91
    · have g3 : ((c.toNat : Int) == 91) = true := byte_t c 91 (by omega) 91 rfl h91
      have hE : R = match setN r with
        | none => none
        | some (s, r2) => some (some s, r2) := by rw [HR.out, if_neg h42, if_neg h63, if_pos h91]
      have hsa := set_any rb r w1 S1.out.rd hrl
      generalize setN r = res at *
      have HE := Lib.hid hE
      have HSA := Lib.hid hsa
      clear h42 h63 h91 HR hE hsa
      generalize c.toNat = cn at *
      go_wp2_with fail
      refine HSA.out.mono ?_
      intro e w5 h5
      cases res with
      | none =>
        obtain ⟨rfl, hg⟩ := h5
        have HE2 : Hid (R = none) := HE
        go_wp2_with fail
        rw [HE2.out]
        exact ⟨rfl, rfl, gb_trans S1.out.gr hg⟩
      | some p =>
        obtain ⟨s2, r2'⟩ := p
        obtain ⟨he, hr5, hg5⟩ := h5
        have HE2 : Hid (R = some (some s2, r2')) := HE
        unfold setV S4.cells at he
        subst he
        have S5 := Lib.hid (S1.out.read hr5 hg5)
        obtain ⟨⟨r0, r1, r2, r3, r4⟩, ff⟩ := S5.out.cells
        have f0 := ff 0
        have f1 := ff 1
        have f2 := ff 2
        have f3 := ff 3
        have f4 := ff 4
        clear ff hr5 hg5 HE
        go_wp2_with fail
        obtain ⟨z0, z1, z2, z3, z4⟩ := set5_cells r0 r1 r2 r3 r4 (.bool false) (.int .u64 (s2.a : Int)) (.int .u64 (s2.b : Int)) (.int .u64 (s2.c : Int)) (.int .u64 (s2.d : Int))
        refine bodyPost_ret (v := .agg #[.bool false, .int .u64 (s2.a : Int), .int .u64 (s2.b : Int), .int .u64 (s2.c : Int), .int .u64 (s2.d : Int)]) (by simp [results, Tryd.results58, go_sem, z0, z1, z2, z3, z4]) rfl ?_
        rw [HE2.out]
        exact ⟨rfl, set5_keeps S5.out.rd S5.out.gr S5.out.n1 S5.out.g1 _ _ _ _ _⟩
    have g3 : ((c.toNat : Int) == 91) = false := byte_f c 91 (by omega) 91 rfl h91
    by_cases h92 : c = 92
    · have g4 : ((c.toNat : Int) == 92) = true := byte_t c 92 (by omega) 92 rfl h92
      have hE0 : r = [] → R = none := fun e => by subst e; rw [HR.out, if_neg h42, if_neg h63, if_neg h91, if_pos h92]
      have hE1 : ∀ d r2, r = d :: r2 → R = some (some (addOne noneS d.toNat), r2) := fun d r2 e => by subst e; rw [HR.out, if_neg h42, if_neg h63, if_neg h91, if_pos h92]
      have HNX := Lib.hid (next_any rb r w1 S1.out.rd hrl)
      have HE0 := Lib.hid hE0
      have HE1 := Lib.hid hE1
      clear h42 h63 h91 h92 HR hE0 hE1
      generalize c.toNat = cn at *
      go_wp2_with fail
      refine HNX.out.mono ?_
      intro e w5 h5
      cases r with
      | nil =>
        obtain ⟨rfl, hg⟩ := h5
        have HE2 : Hid (R = none) := Lib.hid (HE0.out rfl)
        go_wp2_with fail
        rw [HE2.out]
        exact ⟨rfl, rfl, gb_trans S1.out.gr hg⟩
      | cons d r2' =>
        obtain ⟨he, hr5, hg5⟩ := h5
        have HE2 : Hid (R = some (some (addOne noneS d.toNat), r2')) := Lib.hid (HE1.out d r2' rfl)
        unfold byteV at he
        subst he
        have S5 := Lib.hid (S1.out.read hr5 hg5)
        have hd := d.toNat_lt
        have HON := Lib.hid (one_any d.toNat w5 hd)
        clear hr5 hg5 HE0 HE1 hd
        generalize d.toNat = dn at *
        go_wp2_with fail
        refine HON.out.mono ?_
        generalize addOne noneS dn = s2 at *
        rintro e w6 ⟨he, hb6⟩
        unfold signV at he
        simp only at he
        subst he
        have S6 := Lib.hid (S5.out.on hb6)
        obtain ⟨⟨r0, r1, r2, r3, r4⟩, ff⟩ := S6.out.cells
        have f0 := ff 0
        have f1 := ff 1
        have f2 := ff 2
        have f3 := ff 3
        have f4 := ff 4
        clear ff hb6
        go_wp2_with fail
        obtain ⟨z0, z1, z2, z3, z4⟩ := set5_cells r0 r1 r2 r3 r4 (.bool false) (.int .u64 (s2.a : Int)) (.int .u64 (s2.b : Int)) (.int .u64 (s2.c : Int)) (.int .u64 (s2.d : Int))
        refine bodyPost_ret (v := .agg #[.bool false, .int .u64 (s2.a : Int), .int .u64 (s2.b : Int), .int .u64 (s2.c : Int), .int .u64 (s2.d : Int)]) (by simp [results, Tryd.results58, go_sem, z0, z1, z2, z3, z4]) rfl ?_
        rw [HE2.out]
        exact ⟨rfl, set5_keeps S6.out.rd S6.out.gr S6.out.n1 S6.out.g1 _ _ _ _ _⟩
    have g4 : ((c.toNat : Int) == 92) = false := byte_f c 92 (by omega) 92 rfl h92
    have HE2 : Hid (R = some (some (addOne noneS c.toNat), r)) := Lib.hid (by rw [HR.out, if_neg h42, if_neg h63, if_neg h91, if_neg h92])
    have HON := Lib.hid (one_any c.toNat w1 HC.out)
    clear h42 h63 h91 h92 HR HC
    generalize c.toNat = cn at *
    go_wp2_with fail
    refine HON.out.mono ?_
    generalize addOne noneS cn = s2 at *
    rintro e w6 ⟨he, hb6⟩
    unfold signV at he
    simp only at he
    subst he
    have S6 := Lib.hid (S1.out.on hb6)
    obtain ⟨⟨r0, r1, r2, r3, r4⟩, ff⟩ := S6.out.cells
    have f0 := ff 0
    have f1 := ff 1
    have f2 := ff 2
    have f3 := ff 3
    have f4 := ff 4
    clear ff hb6
    go_wp2_with fail
    obtain ⟨z0, z1, z2, z3, z4⟩ := set5_cells r0 r1 r2 r3 r4 (.bool false) (.int .u64 (s2.a : Int)) (.int .u64 (s2.b : Int)) (.int .u64 (s2.c : Int)) (.int .u64 (s2.d : Int))
    refine bodyPost_ret (v := .agg #[.bool false, .int .u64 (s2.a : Int), .int .u64 (s2.b : Int), .int .u64 (s2.c : Int), .int .u64 (s2.d : Int)]) (by simp [results, Tryd.results58, go_sem, z0, z1, z2, z3, z4]) rfl ?_
    rw [HE2.out]
    exact ⟨rfl, set5_keeps S6.out.rd S6.out.gr S6.out.n1 S6.out.g1 _ _ _ _ _⟩
end Go.Proofs.YthigepjddfdbmaaDoor
