/- The reference's set. -/
import Derived.Test.YthigepjddfdbmaaDoorGlobZc
import Derived.Deep.DeepCutAuto
import Derived.Laws.CopyOwn
namespace Go.Proofs.YthigepjddfdbmaaDoor
open Go.RowKit Go.Lib
attribute [local simp high] at_size2 at_zero2
theorem results_three {fn : Func} {p u z : Tmp} {ty : TypeId} (h : fn.results = #[.cell p ty, .tmp u, .tmp z]) (tmps : Array Value) (P : Program) (w : World) :
    (results fn tmps).run P w = ((asAddr (tmps.getD p undef)).run P w).andThen fun a w₁ => ((loadVar ty a).run P w₁).andThen fun v w₂ => .ok (.tuple #[v, tmps.getD u undef, tmps.getD z undef]) w₂ := by
  simp only [results, h]
  simp [Sem.run_bind, Result.andThen]
theorem atom_size : (Tryd.prog.info? 80).map (·.size) = some n257 := by kernel_rfl
theorem results_atom {fn : Func} {p u z : Tmp} (h : fn.results = #[.cell p 80, .tmp u, .tmp z]) (tmps : Array Value) (w : World) {b : Nat} {st : Bool} {f : Nat → Bool} {x y : Value} (hp : tmps.getD p undef = .pointer (some ⟨b, 0, none⟩)) (hx : tmps.getD u undef = x) (hy : tmps.getD z undef = y) (hI : RowAt w b 80 (atomC st f)) :
    (results fn tmps).run Tryd.prog w = .ok (.tuple #[.agg (atomC st f).toArray, x, y]) w := by
  have := run_loadVar_row (P := Tryd.prog) w b 80 80 (atomC st f).toArray (0, 0) _ hI.blk Tryd.underlying80 rfl (by rw [atom_size, List.size_toArray, atom_len])
  rw [results_three h, hp, hx, hy]
  simp [asAddr, this]
/-- What the reference's set answers. -/
def SetP (s : Txt) (k : Nat) (w : World) (e : Ending) (w' : World) : Prop := Below w.heap.size w w' ∧ match setAt s k with
  | none => ∃ (f : Nat → Bool) (n : Int), e = .returned (.tuple #[.agg (atomC false f).toArray, .int .i64 n, .bool false])
  | some (a, n) => e = .returned (.tuple #[.agg (atomC false (hasS a)).toArray, .int .i64 (n : Int), .bool true])
/-- Both boxes, while a set is read. -/
structure RSt (w : World) (acc : S4) (W : World) : Prop where
  res : RowAt W w.heap.size 80 (atomC false noB)
  box : RowAt W (w.heap.size + 1) 80 (atomC false (hasS acc))
  bel : Below w.heap.size w W
theorem span_none {s : Txt} {k : Nat} (h : letterN s k = none) : spanK s k = none := by unfold spanK; rw [h]
theorem span_some {s : Txt} {k : Nat} {x : UInt8} {n : Nat} (h : letterN s k = some (x, n)) : spanK s k = if n + 1 < s.length ∧ s.getD n 0 = 45 ∧ s.getD (n + 1) 0 ≠ 93 then
      (match letterN s (n + 1) with
      | none => none
      | some (y, n2) => if y.toNat < x.toNat then none else some ((x.toNat, y.toNat), n2))
    else if n + 1 = s.length ∧ s.getD n 0 = 45 then none else some ((x.toNat, x.toNat), n) := by unfold spanK; rw [h]; rfl
/-- The first q bytes turned over, where they must be. -/
def notTo (nb : Bool) (f : Nat → Bool) (q e : Nat) : Bool := if e < q then f e != nb else f e
theorem notTo_succ (nb : Bool) (f : Nat → Bool) (q e : Nat) : notTo nb f (q + 1) e = if e = q then notTo nb f q q != nb else notTo nb f q e := by
  unfold notTo
  by_cases h : e = q
  · subst h; rw [if_pos (by omega), if_pos rfl, if_neg (by omega)]
  · rw [if_neg h]
    by_cases h2 : e < q
    · rw [if_pos h2, if_pos (by omega)]
    · rw [if_neg h2, if_neg (by omega)]
theorem notTo_all (nb : Bool) (s : S4) (hs : s.Ok) : ∀ e, e < 256 → notTo nb (hasS s) 256 e = hasS (if nb = true then othersS s else s) e := by
  intro e he
  unfold notTo
  rw [if_pos he]
  cases nb
  · rw [if_neg (by simp)]; cases hasS s e <;> rfl
  · rw [if_pos rfl, has_others hs]; cases hasS s e <;> rfl
theorem RSt.add {w W : World} {acc : S4} (h : RSt w acc W) {c : Nat} (hc : c < 256) : RSt w (addOne acc c) (W.setCell ⟨w.heap.size + 1, c + 1, none⟩ (.bool true)) := by
  refine ⟨h.res.kept (heap_setCell_other _ _ _ _ (by simp)), ?_, h.bel.setCell (by simp) _⟩
  have := h.box.set (c + 1) (.bool true)
  rw [atom_set false _ hc] at this
  rw [atom_congr false (g := fun e => if e = c then true else hasS acc e) (fun e he => ?_)]
  · exact this
  · rw [has_addOne hc he]
    by_cases e1 : e = c
    · rw [if_pos e1, decide_eq_true e1, Bool.or_true]
    · rw [if_neg e1, decide_eq_false e1, Bool.or_false]
set_option maxRecDepth 100000 in
set_option maxHeartbeats 2000000 in
theorem rset_any (s : Txt) (k : Nat) (w : World) (hs : s.length ≤ 4000000) (hk : k ≤ 4000001) :
    Calls Tryd.prog 46 #[.string ⟨s.toArray⟩, .int .i64 (k : Int)] w (SetP s k w) := by
  have i1 := RowAt.new w 80 (atomC false noB)
  have i2 := RowAt.new (w.alloc (.cells (atomC false noB).toArray 80)) 80 (atomC false noB)
  have hb2 := ((Below.refl w.heap.size w).alloc (Nat.le_refl _) (.cells (atomC false noB).toArray 80)).alloc (by simp) (.cells (atomC false noB).toArray 80)
  rw [show (w.alloc (.cells (atomC false noB).toArray 80)).heap.size = w.heap.size + 1 by simp] at i2
  replace i1 := i1.kept (w' := (w.alloc (.cells (atomC false noB).toArray 80)).alloc (.cells (atomC false noB).toArray 80)) (Below.heap_alloc _ _ _ (by simp))
  have c1 := i2.write (vs := atomC false noB) rfl (atom_one _ _)
  rw [setRow_self _ _ _ _ _ i2.blk] at c1
  have he : atomC false noB = atomC false (hasS noneS) := atom_congr _ (fun c _ => (has_none c).symm)
  have HST : Hid (RSt w noneS ((w.alloc (.cells (atomC false noB).toArray 80)).alloc (.cells (atomC false noB).toArray 80))) := Lib.hid ⟨i1, by rw [← he]; exact i2, hb2⟩
  have zl := atom_len false noB
  clear i1 i2 hb2 he
  obtain ⟨nb, hnb⟩ : ∃ nb, notAt s k = nb := ⟨_, rfl⟩
  have HNB := Lib.hid hnb
  obtain ⟨j, hj⟩ : ∃ j, (if nb = true then k + 1 else k) = j := ⟨_, rfl⟩
  have hjl : j ≤ 4000002 := by rw [← hj]; split <;> omega
  have HJ := Lib.hid hj
  obtain ⟨G, hG⟩ : ∃ G, setF s (s.length + 2) true noneS j = G := ⟨_, rfl⟩
  have HSA : Hid (setAt s k = G.map fun p => (if nb = true then othersS p.1 else p.1, p.2)) := Lib.hid (by unfold setAt; rw [hnb, hj, hG])
  have HG : Hid (∃ f, s.length < j + f ∧ setF s f true noneS j = G) := Lib.hid ⟨s.length + 2, by omega, hG⟩
  clear hnb hj hG
  go_enter Tryd.func46, Tryd.ntmps46
  go_upto_region 2 with fail
  clear c1 zl
  generalize (w.alloc (.cells (atomC false noB).toArray 80)).alloc (.cells (atomC false noB).toArray 80) = w1 at *
  go_cut [8] (fun s8 wx => s8 = .bool nb ∧ wx = w1)
  case first =>
    have HS := HST
    unfold notAt at HNB
    by_cases h1 : k < s.length
    · have hI := fun W => str_at W s k h1
      obtain ⟨c, hc⟩ : ∃ c, s.getD k 0 = c := ⟨_, rfl⟩
      rw [hc] at hI
      by_cases h2 : c = 33
      · have g : ((c.toNat : Int) == 33) = true := byte_t _ 33 (by omega) 33 rfl h2
        have HE : Hid (nb = true) := Lib.hid (by rw [← HNB.out]; exact decide_eq_true ⟨h1, hc.trans h2⟩)
        clear h2 hc
        go_wp2_with fail
        go_meet
        exact ⟨by rw [HE.out], rfl⟩
      · have g : ((c.toNat : Int) == 33) = false := byte_f _ 33 (by omega) 33 rfl h2
        have HE : Hid (nb = false) := Lib.hid (by rw [← HNB.out]; exact decide_eq_false (fun x => h2 (hc.symm.trans x.2)))
        clear h2 hc
        go_wp2_with fail
        go_meet
        exact ⟨by rw [HE.out], rfl⟩
    · have HE : Hid (nb = false) := Lib.hid (by rw [← HNB.out]; exact decide_eq_false (fun x => h1 x.1))
      go_wp2_with fail
      go_meet
      exact ⟨by rw [HE.out], rfl⟩
  case rest =>
    obtain ⟨rfl, rfl⟩ := hcut
    go_upto_if 27 with fail
    go_cut [1] (fun s1 wx => s1 = .int .i64 (j : Int) ∧ wx = wc)
    case first =>
      cases nb
      · have HE : Hid (k = j) := HJ
        go_wp2_with fail
        go_meet
        exact ⟨by rw [HE.out], rfl⟩
      · have HE : Hid (k + 1 = j) := HJ
        go_wp2_with fail
        go_meet
        exact ⟨by rw [← HE.out]; rfl, rfl⟩
    case rest =>
      obtain ⟨rfl, rfl⟩ := hcut
      clear HJ HNB hk
      go_wp2_with fail
      go_loopw [1, 9] (fun a n wr => ∃ (kk m : Nat) (acc : S4), a = .int .i64 (kk : Int) ∧ n = .int .i64 (m : Int) ∧ Hid (m ≤ kk ∧ kk ≤ 4000002 ∧ acc.Ok ∧ ∃ f, s.length < kk + f ∧ setF s f (decide (m = 0)) acc kk = G) ∧ Hid (RSt w acc wr)) (fun a _ _ => s.length + 1 - (intOf a).toNat)
      case atStart => exact ⟨j, 0, noneS, rfl, rfl, Lib.hid ⟨Nat.zero_le _, hjl, none_ok, HG.out⟩, HST⟩
      case round =>
        obtain ⟨kk, m, acc, rfl, rfl, HR, HS⟩ := hrel
        have hkk := HR.out.2.1
        obtain ⟨b, hb⟩ : ∃ b, decide (¬ (decide (m = 0) = false ∧ kk < s.length ∧ s.getD kk 0 = 93)) = b := ⟨_, rfl⟩
        have HB := Lib.hid hb
        clear hb
        go_upto_region 6 with fail
        go_cut [43] (fun c wx => c = .bool b ∧ wx = wr)
        case first =>
          by_cases hm : m = 0
          · have gm : ((m : Int) == 0) = true := by simp [hm]
            have HE : Hid (b = true) := Lib.hid (by rw [← HB.out]; exact decide_eq_true (fun x => absurd (of_decide_eq_false x.1) (by simp [hm])))
            clear hm
            go_wp2_with fail
            go_meet
            exact ⟨by rw [HE.out], rfl⟩
          · have gm : ((m : Int) == 0) = false := by rw [beq_eq_false_iff_ne]; omega
            by_cases h1 : kk < s.length
            · have hI := fun W => str_at W s kk h1
              obtain ⟨c, hc⟩ : ∃ c, s.getD kk 0 = c := ⟨_, rfl⟩
              rw [hc] at hI
              by_cases h2 : c = 93
              · have g : ((c.toNat : Int) == 93) = true := byte_t _ 93 (by omega) 93 rfl h2
                have g2 : ((c.toNat : Int) != 93) = false := by rw [bne, g]; rfl
                have HE : Hid (b = false) := Lib.hid (by rw [← HB.out]; exact decide_eq_false (fun x => x ⟨decide_eq_false hm, h1, hc.trans h2⟩))
                clear h2 hc hm
                go_wp2_with fail
                go_meet
                exact ⟨by rw [HE.out, decide_eq_false (by omega)], rfl⟩
              · have g : ((c.toNat : Int) == 93) = false := byte_f _ 93 (by omega) 93 rfl h2
                have g2 : ((c.toNat : Int) != 93) = true := by rw [bne, g]; rfl
                have HE : Hid (b = true) := Lib.hid (by rw [← HB.out]; exact decide_eq_true (fun x => h2 (hc.symm.trans x.2.2)))
                clear h2 hc hm
                go_wp2_with fail
                go_meet
                exact ⟨by rw [HE.out], rfl⟩
            · have HE : Hid (b = true) := Lib.hid (by rw [← HB.out]; exact decide_eq_true (fun x => h1 x.2.1))
              clear hm
              go_wp2_with fail
              go_meet
              exact ⟨by rw [HE.out], rfl⟩
        case rest =>
          obtain ⟨rfl, rfl⟩ := hcut
          cases b
          · -- the end
            have HE : Hid (kk < s.length ∧ s.getD kk 0 = 93 ∧ m ≠ 0) := Lib.hid (by
              have h := Classical.byContradiction (of_decide_eq_false HB.out)
              exact ⟨h.2.1, h.2.2, of_decide_eq_false h.1⟩)
            have HGE : Hid (G = some (acc, kk + 1)) := Lib.hid (by
              obtain ⟨f, hf, hG⟩ := HR.out.2.2.2
              have h := HE.out
              cases f with
              | zero => omega
              | succ f => rw [← hG, setF, if_pos ⟨decide_eq_false h.2.2, h.1, h.2.1⟩])
            have HOK : Hid acc.Ok := Lib.hid HR.out.2.2.1
            clear HB HR HST HG
            go_wp2_with fail
            go_loopw [15] (fun i wr => ∃ q : Nat, q ≤ 256 ∧ i = .int .i64 (q : Int) ∧ Hid (RowAt wr w.heap.size 80 (atomC false noB)) ∧ Hid (RowAt wr (w.heap.size + 1) 80 (atomC false (notTo nb (hasS acc) q))) ∧ Hid (Below w.heap.size w wr)) (fun i _ => 256 - (intOf i).toNat)
            case atStart => exact ⟨0, Nat.zero_le _, rfl, Lib.hid HS.out.res, Lib.hid HS.out.box, Lib.hid HS.out.bel⟩
            case round =>
              obtain ⟨q, hq, rfl, H1, H2, H3⟩ := hrel
              by_cases hlt : q < 256
              · have cx := (H2.out.cell (q + 1)).trans (atom_at false _ hlt)
                have fx := H2.out.free (q + 1)
                have HP := Lib.hid (fun b => H2.out.set (q + 1) (.bool b))
                have HPA := Lib.hid (fun b => atom_set false (notTo nb (hasS acc) q) hlt b)
                have HNT := Lib.hid (fun e => notTo_succ nb (hasS acc) q e)
                generalize notTo nb (hasS acc) q q = v at *
                rw [show q + 1 = 1 + q from Nat.add_comm _ _] at cx fx
                go_wp2_with fail
                refine ⟨⟨q + 1, by omega, by go_num, Lib.hid (H1.out.kept (heap_setCell_other _ _ _ _ (by simp))), ?_, Lib.hid (H3.out.setCell (by simp) _)⟩, by simp [intOf]; omega⟩
                have h := HP.out (v != nb)
                rw [HPA.out, ← show (notTo nb (hasS acc) (q + 1)) = _ from funext HNT.out] at h
                refine Lib.hid ?_
                rw [Nat.add_comm 1 q]
                exact h
              · have hqn : q = 256 := by omega
                subst hqn
                have HF : Hid (RowAt wr (w.heap.size + 1) 80 (atomC false (hasS (if nb = true then othersS acc else acc)))) := Lib.hid (by
                  rw [← atom_congr false (notTo_all nb acc HOK.out)]; exact H2.out)
                have HSR : Hid (setAt s k = some (if nb = true then othersS acc else acc, kk + 1)) := Lib.hid (by rw [HSA.out, HGE.out]; rfl)
                clear H2 HSA HGE
                generalize (if nb = true then othersS acc else acc) = r at *
                have c2 := HF.out.cells (atom_len _ _)
                have c3 := H1.out.write (vs := atomC false (hasS r)) (by rw [atom_len, atom_len]) (atom_one _ _)
                have HI := Lib.hid (H1.out.put (atomC false (hasS r)))
                have HW := Lib.hid (below_setRow H3.out (Nat.le_refl _) (atomC false (hasS r)).toArray)
                have hol := atom_len false (hasS r)
                go_wp2_with fail
                exact bodyPost_ret (results_atom rfl _ _ rfl rfl rfl HI.out) rfl ⟨HW.out, by rw [HSR.out]; go_num⟩
          · have HNS : Hid (¬ (decide (m = 0) = false ∧ kk < s.length ∧ s.getD kk 0 = 93)) := Lib.hid (of_decide_eq_true HB.out)
            have HLT := Lib.hid (letter_any s kk wc (by omega) (by omega))
            have HGS : Hid (G = match spanK s kk with
                | none => none
                | some ((x, y), r) => setF s (s.length + 2) false (addUp acc x (y + 1 - x)) r) := Lib.hid (by
              obtain ⟨f, hf, hG⟩ := HR.out.2.2.2
              rw [← hG]
              cases f with
              | zero => rw [span_out (by omega)]; rfl
              | succ f =>
                rw [setF_step HNS.out]
                cases hsp : spanK s kk with
                | none => rfl
                | some p =>
                  obtain ⟨⟨x, y⟩, r⟩ := p
                  have := span_lt hsp
                  exact setF_more _ _ _ _ _ (by omega) (by omega))
            have HKK := Lib.hid hkk
            have HOK : Hid acc.Ok := Lib.hid HR.out.2.2.1
            have HMK : Hid (m ≤ kk) := Lib.hid HR.out.1
            clear HB HR HNS HST HG
            go_wp2_with fail
            refine HLT.out.mono ?_
            rintro e w5 ⟨he, rfl⟩
            clear HLT
            unfold LetterP at he
            cases hL : letterN s kk with
            | none =>
              rw [hL] at he
              obtain ⟨n, rfl⟩ := he
              have HG0 : Hid (G = none) := Lib.hid (by rw [HGS.out, span_none hL])
              clear hL HGS
              have c2 := (HS.out).box.cells (atom_len _ _)
              have c3 := (HS.out).res.write (vs := atomC false (hasS acc)) (by rw [atom_len, atom_len]) (atom_one _ _)
              have HI := Lib.hid ((HS.out).res.put (atomC false (hasS acc)))
              have HW := Lib.hid (below_setRow (HS.out).bel (Nat.le_refl _) (atomC false (hasS acc)).toArray)
              have hol := atom_len false (hasS acc)
              go_wp2_with fail
              exact bodyPost_ret (results_atom rfl _ _ rfl rfl rfl HI.out) rfl ⟨HW.out, by rw [HSA.out, HG0.out]; exact ⟨_, _, rfl⟩⟩
            | some p =>
              obtain ⟨x, n⟩ := p
              rw [hL] at he
              obtain rfl := he
              have hln := letter_lt hL
              have HSP := Lib.hid (span_some hL)
              have hxl := x.toNat_lt
              clear hL
              generalize x.toNat = xn at *
              obtain ⟨ta, hta⟩ : ∃ b, decide (n + 1 < s.length ∧ s.getD n 0 = 45 ∧ s.getD (n + 1) 0 ≠ 93) = b := ⟨_, rfl⟩
              have H80 := Lib.hid hta
              clear hta
              go_upto_region 12 with fail
              go_cut [75] (fun c wx => c = .bool ta ∧ wx = w5)
              case first =>
                by_cases h1 : n + 1 < s.length
                · have hI := fun W => str_at W s n (by omega)
                  have hJ : ∀ W, (Instr.index 9 (.string ⟨s.toArray⟩) (.int .i64 ((n : Int) + 1))).run Tryd.prog W = .ok (.int .u8 ((s.getD (n + 1) 0).toNat : Nat)) W := fun W => by
                    have := str_at W s (n + 1) h1
                    rwa [show ((n + 1 : Nat) : Int) = (n : Int) + 1 by omega] at this
                  generalize s.getD n 0 = c at *
                  generalize s.getD (n + 1) 0 = d at *
                  by_cases h2 : c = 45
                  · have g : ((c.toNat : Int) == 45) = true := byte_t _ 45 (by omega) 45 rfl h2
                    by_cases h3 : d = 93
                    · have g3 : ((d.toNat : Int) == 93) = true := byte_t _ 93 (by omega) 93 rfl h3
                      have g4 : ((d.toNat : Int) != 93) = false := by rw [bne, g3]; rfl
                      have HE : Hid (ta = false) := Lib.hid (by rw [← H80.out]; exact decide_eq_false (fun x => x.2.2 h3))
                      clear h2 h3
                      go_wp2_with fail
                      go_meet
                      exact ⟨by rw [HE.out], rfl⟩
                    · have g3 : ((d.toNat : Int) == 93) = false := byte_f _ 93 (by omega) 93 rfl h3
                      have g4 : ((d.toNat : Int) != 93) = true := by rw [bne, g3]; rfl
                      have HE : Hid (ta = true) := Lib.hid (by rw [← H80.out]; exact decide_eq_true ⟨h1, h2, h3⟩)
                      clear h2 h3
                      go_wp2_with fail
                      go_meet
                      exact ⟨by rw [HE.out], rfl⟩
                  · have g : ((c.toNat : Int) == 45) = false := byte_f _ 45 (by omega) 45 rfl h2
                    have HE : Hid (ta = false) := Lib.hid (by rw [← H80.out]; exact decide_eq_false (fun x => h2 x.2.1))
                    clear h2
                    go_wp2_with fail
                    go_meet
                    exact ⟨by rw [HE.out], rfl⟩
                · have HE : Hid (ta = false) := Lib.hid (by rw [← H80.out]; exact decide_eq_false (fun x => h1 x.1))
                  go_wp2_with fail
                  go_meet
                  exact ⟨by rw [HE.out], rfl⟩
              case rest =>
                obtain ⟨rfl, rfl⟩ := hcut
                have HE0 : Hid (xn < 256) := Lib.hid hxl
                have HN0 : Hid (n ≤ s.length) := Lib.hid hln.2
                go_upto_if 75 with fail
                go_cut [11, 12, 13] (fun s11 s12 s13 wx => wx = wc ∧ ((spanK s kk = none ∧ s12 = .bool false ∧ (∃ n : Int, s11 = .int .i64 n) ∧ ∃ y : Int, s13 = .int .u8 y) ∨ ∃ yn nn : Nat, s11 = .int .i64 (nn : Int) ∧ s12 = .bool true ∧ s13 = .int .u8 (yn : Int) ∧ Hid (yn < 256 ∧ spanK s kk = if yn < xn then none else some ((xn, yn), nn))))
                case first =>
                  cases ta
                  · have HSP2 : Hid (spanK s kk = if n + 1 = s.length ∧ s.getD n 0 = 45 then none else some ((xn, xn), n)) := Lib.hid (by rw [HSP.out, if_neg (of_decide_eq_false H80.out)])
                    clear HSP H80
                    by_cases h1 : n + 1 = s.length
                    · have hI := fun W => str_at W s n (by omega)
                      generalize s.getD n 0 = c at *
                      by_cases h2 : c = 45
                      · have g : ((c.toNat : Int) == 45) = true := byte_t _ 45 (by omega) 45 rfl h2
                        have HG0 : Hid (G = none) := Lib.hid (by rw [HGS.out, HSP2.out, if_pos ⟨h1, h2⟩])
                        have g1 : ((n : Int) + 1 == (s.length : Int)) = true := by simp; omega
                        clear h2 HSP2 HGS
                        have c2 := (HS.out).box.cells (atom_len _ _)
                        have c3 := (HS.out).res.write (vs := atomC false (hasS acc)) (by rw [atom_len, atom_len]) (atom_one _ _)
                        have HI := Lib.hid ((HS.out).res.put (atomC false (hasS acc)))
                        have HW := Lib.hid (below_setRow (HS.out).bel (Nat.le_refl _) (atomC false (hasS acc)).toArray)
                        have hol := atom_len false (hasS acc)
                        go_wp2_with fail
                        exact bodyPost_ret (results_atom rfl _ _ rfl rfl rfl HI.out) rfl ⟨HW.out, by rw [HSA.out, HG0.out]; exact ⟨_, _, rfl⟩⟩
                      · have g : ((c.toNat : Int) == 45) = false := byte_f _ 45 (by omega) 45 rfl h2
                        have HSP3 : Hid (spanK s kk = some ((xn, xn), n)) := Lib.hid (by rw [HSP2.out, if_neg (fun x => h2 x.2)])
                        have g1 : ((n : Int) + 1 == (s.length : Int)) = true := by simp; omega
                        clear h2 HSP2
                        go_wp2_with fail
                        go_meet
                        exact ⟨rfl, Or.inr ⟨xn, n, rfl, rfl, rfl, Lib.hid ⟨HE0.out, by rw [HSP3.out, if_neg (Nat.lt_irrefl _)]⟩⟩⟩
                    · have HSP3 : Hid (spanK s kk = some ((xn, xn), n)) := Lib.hid (by rw [HSP2.out, if_neg (fun x => h1 x.1)])
                      have g1 : ((n : Int) + 1 == (s.length : Int)) = false := by rw [beq_eq_false_iff_ne]; omega
                      clear HSP2
                      go_wp2_with fail
                      go_meet
                      exact ⟨rfl, Or.inr ⟨xn, n, rfl, rfl, rfl, Lib.hid ⟨HE0.out, by rw [HSP3.out, if_neg (Nat.lt_irrefl _)]⟩⟩⟩
                  · have HL2 := letter_any s (n + 1) wc (by omega) (by omega)
                    rw [show ((n + 1 : Nat) : Int) = (n : Int) + 1 by omega] at HL2
                    have HL3 := Lib.hid HL2
                    have HSP2 : Hid (spanK s kk = match letterN s (n + 1) with
                        | none => none
                        | some (y, n2) => if y.toNat < xn then none else some ((xn, y.toNat), n2)) := Lib.hid (by rw [HSP.out, if_pos (of_decide_eq_true H80.out)])
                    clear HL2 HSP H80
                    go_wp2_with fail
                    refine HL3.out.mono ?_
                    rintro e w6 ⟨he, rfl⟩
                    unfold LetterP at he
                    cases hL : letterN s (n + 1) with
                    | none =>
                      rw [hL] at he
                      obtain ⟨z, rfl⟩ := he
                      have HSP3 : Hid (spanK s kk = none) := Lib.hid (by rw [HSP2.out, hL])
                      clear hL HSP2 HL3
                      go_wp2_with fail
                      go_meet
                      exact ⟨rfl, Or.inl ⟨HSP3.out, rfl, ⟨_, rfl⟩, ⟨_, rfl⟩⟩⟩
                    | some p =>
                      obtain ⟨y, n2⟩ := p
                      rw [hL] at he
                      obtain rfl := he
                      have HSP3 : Hid (spanK s kk = if y.toNat < xn then none else some ((xn, y.toNat), n2)) := Lib.hid (by rw [HSP2.out, hL])
                      have HYL : Hid (y.toNat < 256) := Lib.hid y.toNat_lt
                      clear hL HSP2 HL3
                      generalize y.toNat = yn at *
                      go_wp2_with fail
                      go_meet
                      exact ⟨rfl, Or.inr ⟨yn, n2, rfl, rfl, rfl, Lib.hid ⟨HYL.out, HSP3.out⟩⟩⟩
                case rest =>
                  obtain ⟨rfl, ⟨hsp, rfl, ⟨z, rfl⟩, ⟨y, rfl⟩⟩ | ⟨yn, nn, rfl, rfl, rfl, HY⟩⟩ := hcut
                  · have HG0 : Hid (G = none) := Lib.hid (by rw [HGS.out, hsp])
                    clear hsp HGS HSP
                    have c2 := (HS.out).box.cells (atom_len _ _)
                    have c3 := (HS.out).res.write (vs := atomC false (hasS acc)) (by rw [atom_len, atom_len]) (atom_one _ _)
                    have HI := Lib.hid ((HS.out).res.put (atomC false (hasS acc)))
                    have HW := Lib.hid (below_setRow (HS.out).bel (Nat.le_refl _) (atomC false (hasS acc)).toArray)
                    have hol := atom_len false (hasS acc)
                    go_wp2_with fail
                    exact bodyPost_ret (results_atom rfl _ _ rfl rfl rfl HI.out) rfl ⟨HW.out, by rw [HSA.out, HG0.out]; exact ⟨_, _, rfl⟩⟩
                  · have hyl := HY.out.1
                    by_cases hyx : yn < xn
                    · have HG0 : Hid (G = none) := Lib.hid (by rw [HGS.out, HY.out.2, if_pos hyx])
                      clear HGS HSP HY
                      have c2 := (HS.out).box.cells (atom_len _ _)
                      have c3 := (HS.out).res.write (vs := atomC false (hasS acc)) (by rw [atom_len, atom_len]) (atom_one _ _)
                      have HI := Lib.hid ((HS.out).res.put (atomC false (hasS acc)))
                      have HW := Lib.hid (below_setRow (HS.out).bel (Nat.le_refl _) (atomC false (hasS acc)).toArray)
                      have hol := atom_len false (hasS acc)
                      go_wp2_with fail
                      exact bodyPost_ret (results_atom rfl _ _ rfl rfl rfl HI.out) rfl ⟨HW.out, by rw [HSA.out, HG0.out]; exact ⟨_, _, rfl⟩⟩
                    · have HSPF : Hid (spanK s kk = some ((xn, yn), nn)) := Lib.hid (by rw [HY.out.2, if_neg hyx])
                      have HNN : Hid (kk < nn ∧ nn ≤ s.length) := Lib.hid ⟨(span_lt HSPF.out).1, (span_lt HSPF.out).2.1⟩
                      have HGF : Hid (G = setF s (s.length + 2) false (addUp acc xn (yn + 1 - xn)) nn) := Lib.hid (by rw [HGS.out, HSPF.out])
                      clear HY HSP HGS H80
                      go_wp2_with fail
                      go_loopw [14] (fun i wr => ∃ q : Nat, q ≤ yn + 1 - xn ∧ i = .int .i64 ((xn + q : Nat) : Int) ∧ Hid (RSt w (addUp acc xn q) wr)) (fun i _ => yn + 1 - (intOf i).toNat)
                      case atStart => exact ⟨0, Nat.zero_le _, by simp, HS⟩
                      case round =>
                        obtain ⟨q, hq, rfl, HQ⟩ := hrel
                        obtain ⟨c, hc⟩ : ∃ c, xn + q = c := ⟨_, rfl⟩
                        have HC := Lib.hid hc
                        have hcq : q = c - xn := by omega
                        have hcx : xn ≤ c := by omega
                        rw [hc]
                        clear hc
                        by_cases hlt : c ≤ yn
                        · have f1 := HQ.out.box.free (1 + c)
                          have c1 := (HQ.out.box.cell (c + 1)).trans (atom_at false _ (show c < 256 by omega))
                          rw [Nat.add_comm c 1] at c1
                          have HA := Lib.hid (HQ.out.add (c := c) (by omega))
                          rw [Nat.add_comm c 1] at HA
                          have HAD : Hid (addUp acc xn (q + 1) = addOne (addUp acc xn q) c) := Lib.hid (by
                            show addOne (addUp acc xn q) (xn + q) = _
                            rw [HC.out])
                          clear hcq
                          go_wp2_with fail
                          refine ⟨⟨q + 1, by have := HC.out; omega, by have := HC.out; rw [show ((xn + (q + 1) : Nat) : Int) = (c : Int) + 1 by omega], Lib.hid (by rw [HAD.out]; exact HA.out)⟩, by simp [intOf]; omega⟩
                        · have HN : Hid (yn + 1 - xn = q) := Lib.hid (by omega)
                          have HRE : Hid (m + 1 ≤ nn ∧ nn ≤ 4000002 ∧ (addUp acc xn q).Ok ∧ ∃ f, s.length < nn + f ∧ setF s f (decide (m + 1 = 0)) (addUp acc xn q) nn = G) := Lib.hid (by
                            have h1 := HNN.out
                            have h2 := HMK.out
                            refine ⟨by omega, by omega, addUp_ok HOK.out q (by omega), s.length + 2, by omega, ?_⟩
                            rw [HGF.out, HN.out, decide_eq_false (by omega)])
                          have hmk := HMK.out
                          go_wp2_with fail
                          refine ⟨⟨nn, m + 1, addUp acc xn q, rfl, by go_num, HRE, HQ⟩, ?_⟩
                          have h1 := HNN.out
                          simp [intOf]; omega
end Go.Proofs.YthigepjddfdbmaaDoor
