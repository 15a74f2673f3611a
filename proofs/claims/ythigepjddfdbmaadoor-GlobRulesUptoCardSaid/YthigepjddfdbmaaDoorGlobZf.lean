/- The reference's Atoms and Check. -/
import Derived.Test.YthigepjddfdbmaaDoorGlobZd
namespace Go.Proofs.YthigepjddfdbmaaDoor
open Go.RowKit Go.Lib
attribute [local simp high] at_size2 at_zero2
/-- A sign at a place, and the place behind it. -/
def signK (s : Txt) (k : Nat) : Option (Option S4 × Nat) := if s.getD k 0 = 42 then some (none, k + 1) else if s.getD k 0 = 63 then some (some (othersS noneS), k + 1) else if s.getD k 0 = 91 then (setAt s (k + 1)).map (fun p => (some p.1, p.2))
  else (letterN s k).map fun p => (some (addOne noneS p.1.toNat), p.2)
theorem sign_k {s : Txt} {k : Nat} (h : k < s.length) : signN (s.drop k) = (signK s k).map fun p => (p.1, s.drop p.2) := by
  rw [drop_at h]
  unfold signK signN
  generalize hc : s.getD k 0 = c at *
  show (if c = 42 then _ else _) = _
  by_cases h1 : c = 42
  · rw [if_pos h1, if_pos h1]; rfl
  · rw [if_neg h1, if_neg h1]
    by_cases h2 : c = 63
    · rw [if_pos h2, if_pos h2]; rfl
    · rw [if_neg h2, if_neg h2]
      by_cases h3 : c = 91
      · rw [if_pos h3, if_pos h3, set_at]
        cases setAt s (k + 1) with
        | none => rfl
        | some p => rfl
      · rw [if_neg h3, if_neg h3]
        unfold letterN
        rw [hc]
        by_cases h4 : c = 92
        · rw [if_pos h4, if_pos ⟨h, h4⟩]
          by_cases h5 : k + 1 < s.length
          · rw [if_pos h5, drop_at h5]; rfl
          · rw [if_neg h5, List.drop_eq_nil_of_le (by omega)]; rfl
        · rw [if_neg h4, if_neg (fun x => h4 x.2), if_pos h]; rfl
theorem sign_lt {s : Txt} {k : Nat} {x : Option S4} {n : Nat} (h : k < s.length) (hs : signK s k = some (x, n)) : k < n ∧ n ≤ s.length := by
  unfold signK at hs
  split at hs
  · injection hs with hs; injection hs with _ hs; omega
  · split at hs
    · injection hs with hs; injection hs with _ hs; omega
    · split at hs
      · cases hq : setAt s (k + 1) with
        | none => rw [hq] at hs; cases hs
        | some p =>
          obtain ⟨a, m⟩ := p
          have := setAt_ok hq
          rw [hq] at hs
          injection hs with hs; injection hs with _ hs
          have e : m = n := hs
          omega
      · cases hq : letterN s k with
        | none => rw [hq] at hs; cases hs
        | some p =>
          obtain ⟨a, m⟩ := p
          have := letter_lt hq
          rw [hq] at hs
          injection hs with hs; injection hs with _ hs
          have e : m = n := hs
          omega
def atomRel (_ : Nat → Prop) (_ : World) (x : Option S4) (cs : List Value) : Prop := cs = atomC x.isNone (takesF x)
theorem atom_keeps : Keeps atomRel := fun _ _ _ _ _ _ h _ => h
abbrev AtomsC := RowsC atomRel n257
theorem srcA_one (w : World) (cs : List Value) (hl : cs.length = n257) (h1 : ∀ u ∈ cs, u.oneCell' = true) : Src Tryd.prog n257 49 (.slice (some ⟨w.heap.size, 0, none⟩) 1 1) 1 cs (w.alloc (.cells cs.toArray 80)) :=
  Src.ofSlice _ Tryd.underlying49 _ 1 1 _ (by rw [hl, Nat.one_mul]) (fun j u hj => by
    have h0 := new_five w cs.toArray 80
    rw [add_pos, cell_of_row _ _ _ _ _ _ h0, Nat.zero_add]
    simpa using hj) h1
theorem fold_at : ∀ (l : List Value) (k : Nat) (A : Array Value) (j : Nat), (List.foldl (fun (cs : Array Value) (x : Value × Nat) => cs.setIfInBounds x.2 x.1) A (l.zipIdx k))[j]? = if k ≤ j ∧ j < k + l.length ∧ j < A.size then l[j - k]? else A[j]?
  | [], k, A, j => by rw [if_neg (by simp; omega)]; rfl
  | v :: l, k, A, j => by
    rw [List.zipIdx_cons, List.foldl_cons, fold_at l (k + 1) _ j, Array.size_setIfInBounds, List.length_cons]
    by_cases h : k = j
    · subst h
      rw [if_neg (by omega), Array.getElem?_setIfInBounds, if_pos rfl]
      by_cases h2 : k < A.size
      · rw [if_pos h2, if_pos (by omega), Nat.sub_self]; rfl
      · rw [if_neg h2, if_neg (by omega), Array.getElem?_eq_none (by omega)]
    · rw [Array.getElem?_setIfInBounds, if_neg h]
      by_cases h2 : k + 1 ≤ j ∧ j < k + 1 + l.length ∧ j < A.size
      · rw [if_pos h2, if_pos (by omega)]
        obtain ⟨d, rfl⟩ : ∃ d, j = k + 1 + d := ⟨j - (k + 1), by omega⟩
        rw [show k + 1 + d - (k + 1) = d by omega, show k + 1 + d - k = d + 1 by omega, List.getElem?_cons_succ]
      · rw [if_neg h2, if_neg (by omega)]
/-- A sign's cells, built into a row of one. -/
theorem build_atom (st : Bool) (f : Nat → Bool) : List.foldl (fun (cs : Array Value) (x : Value × Nat) => cs.setIfInBounds x.2 x.1) (Array.map (fun x => (atomC false noB)[x % (atomC false noB).length]?.getD default) (Array.range n257)) (atomC st f).zipIdx = (atomC st f).toArray := by
  have h1 : (Array.map (fun x => (atomC false noB)[x % (atomC false noB).length]?.getD default) (Array.range n257)).size = n257 := by rw [Array.size_map, Array.size_range]
  generalize Array.map (fun x => (atomC false noB)[x % (atomC false noB).length]?.getD default) (Array.range n257) = A at *
  have h2 := atom_len st f
  generalize atomC st f = l at *
  apply Array.ext_getElem?
  intro j
  rw [fold_at, Nat.zero_add, Nat.sub_zero]
  by_cases h : j < n257
  · rw [if_pos ⟨Nat.zero_le _, by omega, by omega⟩]; simp
  · rw [if_neg (fun x => h (by omega)), Array.getElem?_eq_none (by omega), Array.getElem?_eq_none (by rw [List.size_toArray]; omega)]
theorem atom_zs : (Value.agg (atomC false noB).toArray).cells.size = n257 := by
  show (atomC false noB).toArray.size = _
  rw [List.size_toArray, atom_len]
attribute [local simp high] build_atom
theorem atom_info : (Tryd.prog.info? 80).map (fun i => (i.zero, i.size, i.bytes)) = some (some (.agg (atomC false noB).toArray), n257, 257) := by kernel_rfl
/-- What the reference's Atoms answers. -/
def AtomsP (s : Txt) (w : World) (e : Ending) (w' : World) : Prop := Below w.heap.size w w' ∧ match signsGo s.length s with
  | none => ∃ v, e = .returned (.tuple #[v, .bool false])
  | some l => ∃ v, e = .returned (.tuple #[v, .bool (!s.isEmpty)]) ∧ AtomsC (fun k => w.heap.size ≤ k ∧ k < w'.heap.size) w' v l ∧ l.length ≤ s.length
set_option maxRecDepth 100000 in
set_option maxHeartbeats 4000000 in
theorem atoms_any (s : Txt) (w : World) (hs : s.length ≤ 4000000) :
    Calls Tryd.prog 27 #[.string ⟨s.toArray⟩] w (AtomsP s w) := by
  obtain ⟨i0, hi, hz0, hz1, hz2⟩ := info_parts atom_info
  unfold AtomsP
  obtain ⟨G, hG⟩ : ∃ G, signsGo s.length s = G := ⟨_, rfl⟩
  have HG : Hid (joinO [] (signsGo s.length (s.drop 0)) = G) := Lib.hid (by rw [List.drop_zero, hG]; cases G <;> rfl)
  rw [hG]
  clear hG
  go_enter Tryd.func27, Tryd.ntmps27
  go_wp2_with fail
  go_loopw [4, 5] (fun o a wr => ∃ (l : List (Option S4)) (k : Nat) (css : List (List Value)) (n : Nat), a = .int .i64 (k : Int) ∧ k ≤ s.length ∧ Hid (joinO l (signsGo n (s.drop k)) = G) ∧ Hid (s.length ≤ n + k) ∧ l.length ≤ k ∧ Hid (OwnR atomRel 80 n257 (fun q => w.heap.size ≤ q) wr w.heap.size o css l) ∧ Hid (Below w.heap.size w wr)) (fun _ a _ => s.length - (intOf a).toNat)
  case atStart => exact ⟨[], 0, [], s.length, rfl, Nat.zero_le _, HG, Lib.hid (Nat.le_refl _), Nat.le_refl _, Lib.hid (OwnR.nil _ _ _ _ _ _), Lib.hid (Below.refl _ _)⟩
  case round =>
    obtain ⟨l, k, css, n, rfl, hk, hE, hN, hlk, hO, hB⟩ := hrel
    obtain ⟨oa, oc, rfl⟩ := ownR_shape hO.out
    by_cases hlt : k < s.length
    · obtain ⟨m, hm⟩ : ∃ m, n = m + 1 := ⟨n - 1, by have := hN.out; omega⟩
      subst hm
      have HGE : Hid (G = joinO l (match signK s k with
        | none => none
        | some (x, r) => (match signsGo m (s.drop r) with
          | none => none
          | some l => some (x :: l)))) := Lib.hid (by
        rw [← hE.out]
        congr 1
        have e1 := sign_k hlt
        rw [drop_at hlt] at e1 ⊢
        rw [signsGo, e1]
        cases signK s k with
        | none => rfl
        | some p => rfl)
      have hI := fun W => str_at W s k hlt
      have i1 := RowAt.new wr 80 (atomC false noB)
      have c1 := i1.write (vs := atomC false noB) rfl (atom_one _ _)
      rw [setRow_self _ _ _ _ _ i1.blk] at c1
      have zl := atom_len false noB
      have HB1 : Hid (Below wr.heap.size wr (wr.alloc (.cells (atomC false noB).toArray 80))) := Lib.hid ((Below.refl _ wr).alloc (Nat.le_refl _) _)
      have HI1 := Lib.hid i1
      clear i1
      obtain ⟨c, hc⟩ : ∃ c, s.getD k 0 = c := ⟨_, rfl⟩
      rw [hc] at hI
      have HC := Lib.hid hc
      clear hc
      obtain ⟨res, hres⟩ : ∃ r, signK s k = r := ⟨_, rfl⟩
      have HRES := Lib.hid hres
      rw [hres] at HGE
      have HSK := Lib.hid (fun x n => sign_lt (x := x) (n := n) hlt)
      rw [hres] at HSK
      clear hres
      go_upto_if 18 with fail
      clear c1 zl
      generalize wr.alloc (.cells (atomC false noB).toArray 80) = wa at *
      go_cut [5, 7] (fun s5 s7 wx => Hid (Below wr.heap.size wr wx) ∧ match res with
        | none => (∃ n : Int, s5 = .int .i64 n) ∧ s7 = .bool false
        | some (x, n) => s5 = .int .i64 (n : Int) ∧ s7 = .bool true ∧ Hid (RowAt wx wr.heap.size 80 (atomC x.isNone (takesF x))))
      case first =>
        have HSZ : Hid (wr.heap.size < wa.heap.size) := Lib.hid HI1.out.lt
        unfold signK at HRES
        rw [HC.out] at HRES
        by_cases h1 : c = 42
        · have g : ((c.toNat : Int) == 42) = true := byte_t _ 42 (by omega) 42 rfl h1
          have HR : Hid (res = some (none, k + 1)) := Lib.hid (by rw [← HRES.out, if_pos h1])
          have hr := HR.out
          subst hr
          have f0 := HI1.out.free 0
          have c0 := (HI1.out.cell 0).trans (atom_zero false noB)
          clear h1
          go_wp2_with fail
          go_meet
          exact ⟨Lib.hid (HB1.out.setCell (Nat.le_refl _) _), by go_num, rfl, Lib.hid (HI1.out.set 0 (.bool true))⟩
        · have g : ((c.toNat : Int) == 42) = false := byte_f _ 42 (by omega) 42 rfl h1
          by_cases h2 : c = 63
          · have g2 : ((c.toNat : Int) == 63) = true := byte_t _ 63 (by omega) 63 rfl h2
            have HR : Hid (res = some (some (othersS noneS), k + 1)) := Lib.hid (by rw [← HRES.out, if_neg h1, if_pos h2])
            have hr := HR.out
            subst hr
            clear h1 h2
            go_wp2_with fail
            go_loopw [8] (fun i wz => ∃ q : Nat, q ≤ 256 ∧ i = .int .i64 (q : Int) ∧ Hid (RowAt wz wr.heap.size 80 (atomC false fun e => decide (e < q))) ∧ Hid (Below wr.heap.size wr wz)) (fun i _ => 256 - (intOf i).toNat)
            case atStart => exact ⟨0, Nat.zero_le _, rfl, Lib.hid (by rw [atom_congr false (g := noB) (fun c _ => decide_eq_false (Nat.not_lt_zero c))]; exact HI1.out), HB1⟩
            case round =>
              obtain ⟨q, hq, rfl, H1, H2⟩ := hrel
              by_cases hq2 : q < 256
              · have f0 := H1.out.free (1 + q)
                have c0 := (H1.out.cell (q + 1)).trans (atom_at false _ hq2)
                rw [Nat.add_comm q 1] at c0
                have HP := Lib.hid (H1.out.set (q + 1) (.bool true))
                have HPA := Lib.hid (atom_set false (fun e => decide (e < q)) hq2 true)
                generalize decide (q < q) = u at c0
                go_wp2_with fail
                refine ⟨⟨q + 1, by omega, by go_num, Lib.hid ?_, Lib.hid (H2.out.setCell (Nat.le_refl _) _)⟩, by simp [intOf]; omega⟩
                rw [Nat.add_comm 1 q, atom_congr false (g := fun e => if e = q then true else decide (e < q)) (fun e _ => ?_), ← HPA.out]
                · exact HP.out
                · by_cases e1 : e = q
                  · rw [if_pos e1]; exact decide_eq_true (by omega)
                  · rw [if_neg e1]; exact decide_eq_decide.2 (by omega)
              · have hqn : q = 256 := by omega
                subst hqn
                have h9 := H1.out
                rw [atom_congr false (g := hasS (othersS noneS)) (fun e he => by rw [has_others none_ok, has_none]; exact decide_eq_true he)] at h9
                have HF := Lib.hid h9
                clear h9
                go_wp2_with fail
                go_meet
                exact ⟨H2, by go_num, rfl, HF⟩
          · have g2 : ((c.toNat : Int) == 63) = false := byte_f _ 63 (by omega) 63 rfl h2
            by_cases h3 : c = 91
            · have g3 : ((c.toNat : Int) == 91) = true := byte_t _ 91 (by omega) 91 rfl h3
              have HR : Hid ((setAt s (k + 1)).map (fun p => (some p.1, p.2)) = res) := Lib.hid (by rw [← HRES.out, if_neg h1, if_neg h2, if_pos h3])
              have hst := rset_any s (k + 1) wa hs (by omega)
              rw [show ((k + 1 : Nat) : Int) = (k : Int) + 1 by omega] at hst
              have HST := Lib.hid hst
              clear h1 h2 h3 HRES hst
              go_wp2_with fail
              refine HST.out.mono ?_
              rintro e w5 ⟨hb5, he⟩
              have HB5 : Hid (Below wr.heap.size wr w5) := Lib.hid (HB1.out.trans (hb5.mono (Nat.le_of_lt HSZ.out)))
              have HI5 := Lib.hid (HI1.out.kept (hb5.block _ HSZ.out))
              clear hb5 HST
              cases hsa : setAt s (k + 1) with
              | none =>
                rw [hsa] at he HR
                obtain ⟨fb, z, rfl⟩ := he
                have hr := HR.out
                subst hr
                have c3 := HI5.out.write (vs := atomC false fb) (by rw [atom_len, atom_len]) (atom_one _ _)
                have hol := atom_len false fb
                clear hsa
                go_wp2_with fail
                go_meet
                exact ⟨Lib.hid (below_setRow HB5.out (Nat.le_refl _) _), ⟨_, rfl⟩, rfl⟩
              | some p =>
                obtain ⟨a, n2⟩ := p
                rw [hsa] at he HR
                obtain rfl := he
                have hr := HR.out
                subst hr
                have c3 := HI5.out.write (vs := atomC false (hasS a)) (by rw [atom_len, atom_len]) (atom_one _ _)
                have hol := atom_len false (hasS a)
                clear hsa
                go_wp2_with fail
                go_meet
                exact ⟨Lib.hid (below_setRow HB5.out (Nat.le_refl _) _), rfl, rfl, Lib.hid (HI5.out.put _)⟩
            · have g3 : ((c.toNat : Int) == 91) = false := byte_f _ 91 (by omega) 91 rfl h3
              have HR : Hid ((letterN s k).map (fun p => (some (addOne noneS p.1.toNat), p.2)) = res) := Lib.hid (by rw [← HRES.out, if_neg h1, if_neg h2, if_neg h3])
              have HLT := Lib.hid (letter_any s k wa (by omega) (by omega))
              clear h1 h2 h3 HRES
              go_wp2_with fail
              refine HLT.out.mono ?_
              rintro e w5 ⟨he, rfl⟩
              unfold LetterP at he
              cases hL : letterN s k with
              | none =>
                rw [hL] at he HR
                obtain ⟨z, rfl⟩ := he
                have hr := HR.out
                subst hr
                have f0 := HI1.out.free 1
                have c0 := (HI1.out.cell 1).trans (atom_at false noB (show 0 < 256 by omega))
                clear hL HLT
                go_wp2_with fail
                go_meet
                exact ⟨Lib.hid (HB1.out.setCell (Nat.le_refl _) _), ⟨_, rfl⟩, rfl⟩
              | some p =>
                obtain ⟨x, n2⟩ := p
                rw [hL] at he HR
                obtain rfl := he
                have hr : res = some (some (addOne noneS x.toNat), n2) := HR.out.symm
                subst hr
                have hxl := x.toNat_lt
                have f0 := HI1.out.free (1 + x.toNat)
                have c0 := (HI1.out.cell (x.toNat + 1)).trans (atom_at false noB hxl)
                rw [Nat.add_comm x.toNat 1] at c0
                have HP := Lib.hid (HI1.out.set (x.toNat + 1) (.bool true))
                have HPA := Lib.hid (atom_set false noB hxl true)
                have HXL := Lib.hid hxl
                clear hL HLT
                generalize x.toNat = xn at *
                go_wp2_with fail
                go_meet
                refine ⟨Lib.hid (HB1.out.setCell (Nat.le_refl _) _), rfl, rfl, Lib.hid ?_⟩
                show RowAt _ _ _ (atomC false (hasS (addOne noneS xn)))
                rw [Nat.add_comm 1 xn, atom_congr false (g := fun e => if e = xn then true else noB e) (fun e he => ?_), ← HPA.out]
                · exact HP.out
                · rw [has_addOne HXL.out he, has_none]
                  by_cases e1 : e = xn
                  · rw [if_pos e1, decide_eq_true e1]; rfl
                  · rw [if_neg e1, decide_eq_false e1]; rfl
      case rest =>
        obtain ⟨HBX, hcr⟩ := hcut
        have HBW : Hid (Below w.heap.size w wc) := Lib.hid (hB.out.trans (HBX.out.mono hB.out.size))
        cases res with
        | none =>
          obtain ⟨⟨z, rfl⟩, rfl⟩ := hcr
          have hg0 : G = none := HGE.out
          subst hg0
          clear HGE
          go_wp2_with fail
          refine bodyPost_ret (v := .tuple #[.slice none 0 0, .bool false]) (by simp [results, Tryd.results27, go_sem]) rfl ⟨HBW.out, ⟨_, rfl⟩⟩
        | some p =>
          obtain ⟨x, n2⟩ := p
          obtain ⟨rfl, rfl, HX⟩ := hcr
          have HN2 := Lib.hid (HSK.out x n2 rfl)
          have HGE2 : Hid (joinO (l ++ [x]) (signsGo m (s.drop n2)) = G) := Lib.hid (by
            have e3 : G = joinO l (match signsGo m (s.drop n2) with
              | none => none
              | some l => some (x :: l)) := HGE.out
            rw [e3]
            cases signsGo m (s.drop n2) <;> simp [joinO])
          have c2 := HX.out.cells (atom_len _ _)
          have hol := atom_len x.isNone (takesF x)
          have hszw := HBW.out.size
          have HO5 := Lib.hid (hO.out.on atom_keeps (fun q hq hh => HBX.out.block q hq) HBX.out.size)
          clear HGE HSK HRES hO
          go_wp2_with (at_builtin; refine wpList_own_src _ rfl _ _ 49 49 rfl w.heap.size 80 i0 (.agg (atomC false noB).toArray) n257 257 Tryd.underlying49 hi hz0 hz1 hz2 atom_zs (by decide) _ _ _ rfl (World.ownsRow.alloc HO5.out.own _) _ 1 (atomC x.isNone (takesF x)) rfl (srcA_one _ _ hol (atom_one _ _)) (by unfold maxLen; omega) (by omega) (by simp; omega) ?_)
          intro v9 w9 hown9 hg9
          have O9 : Hid (OwnR atomRel 80 n257 (fun q => w.heap.size ≤ q) w9 w.heap.size v9 (css ++ [atomC x.isNone (takesF x)]) (l ++ [x])) := Lib.hid (HO5.out.push atom_keeps (fun q hq _ => Below.heap_alloc _ _ _ hq) (by simp) hg9 hol (atom_one _ _) hown9 rfl)
          have B9 : Hid (Below w.heap.size w w9) := Lib.hid (by
            have h1 : Below w.heap.size w (wc.alloc (.cells (atomC x.isNone (takesF x)).toArray 80)) := HBW.out.alloc HBW.out.size _
            exact h1.grown hg9.gb h1.size (fun j hj => (World.ownsRow.lt HO5.out.own j hj).1))
          clear hown9 hg9
          go_wp2_with fail
          go_roundw
          case rel => exact ⟨l ++ [x], n2, _, m, rfl, HN2.out.2, HGE2, Lib.hid (by have := hN.out; have := HN2.out; omega), by have := HN2.out; simp; omega, O9, B9⟩
          case measure => have := HN2.out; simp [intOf]; omega
    · have HGE : Hid (G = some l) := Lib.hid (by
        rw [← hE.out, List.drop_eq_nil_of_le (by omega)]
        have : signsGo n [] = some [] := by cases n <;> rfl
        rw [this]; simp [joinO])
      have hge := HGE.out
      subst hge
      have HLL : Hid (l.length ≤ s.length) := Lib.hid (by omega)
      clear HGE hE
      go_wp2_with fail
      refine bodyPost_ret (v := .tuple #[.slice oa l.length oc, .bool (!s.isEmpty)]) (by simp [results, Tryd.results27, go_sem]) rfl ⟨hB.out, ⟨_, rfl, (hO.out.rows atom_keeps).kept atom_keeps (fun k hk => ⟨⟨by rcases hk.1 with h | h <;> exact h, hk.2⟩, rfl⟩), HLL.out⟩⟩

theorem readN_none : ∀ {L : List Txt}, readN L = none ↔ ∃ t ∈ L, pieceN t = none
  | [] => ⟨fun h => (by cases h), fun ⟨_, h, _⟩ => (by cases h)⟩
  | t :: r => by
    rw [readN_cons]
    cases hp : pieceN t with
    | none => exact ⟨fun _ => ⟨t, List.mem_cons_self, hp⟩, fun _ => rfl⟩
    | some p =>
      have ih := readN_none (L := r)
      cases hr : readN r with
      | none =>
        obtain ⟨x, hx, h⟩ := ih.1 hr
        exact ⟨fun _ => ⟨x, List.mem_cons_of_mem _ hx, h⟩, fun _ => rfl⟩
      | some l =>
        refine ⟨fun h => (by cases h), fun ⟨x, hx, h⟩ => ?_⟩
        rcases List.mem_cons.1 hx with e | hx
        · subst e; rw [hp] at h; cases h
        · rw [ih.2 ⟨x, hx, h⟩] at hr; cases hr
theorem piece_bad {t : Txt} : pieceN t = none ↔ t = [] ∨ signsGo t.length t = none := by
  unfold pieceN
  by_cases h : t = []
  · rw [if_pos h]; exact ⟨fun _ => Or.inl h, fun _ => rfl⟩
  · rw [if_neg h]
    by_cases h2 : t = [42, 42]
    · rw [if_pos h2]
      subst h2
      refine ⟨fun h => (by cases h), ?_⟩
      rintro (h3 | h3)
      · exact absurd h3 h
      · exact absurd h3 (by decide)
    · rw [if_neg h2]
      cases hs : signsGo t.length t with
      | none => exact ⟨fun _ => Or.inr rfl, fun _ => rfl⟩
      | some l =>
        refine ⟨fun h => (by cases h), ?_⟩
        rintro (h3 | h3)
        · exact absurd h3 h
        · cases h3
/-- The number of a pattern's error. -/
def codeN (s : Txt) : Int := match parseN s with
  | .error c => c
  | .ok _ => 0
theorem code_long {s : Txt} (h : 255 < s.length) : codeN s = 2 := by unfold codeN parseN; rw [if_pos h]
theorem code_bad {s : Txt} (h : ¬ 255 < s.length) (hb : ∃ t ∈ splitL s, pieceN t = none) : codeN s = 60 := by
  unfold codeN parseN; rw [if_neg h, readN_none.2 hb]
theorem code_ok {s : Txt} (h : ¬ 255 < s.length) (hb : ∀ t ∈ splitL s, pieceN t ≠ none) : codeN s = 0 := by
  unfold codeN parseN; rw [if_neg h]
  cases hr : readN (splitL s) with
  | none =>
    obtain ⟨t, h1, h2⟩ := readN_none.1 hr
    exact absurd h2 (hb t h1)
  | some l => rfl
theorem names_split {s : Txt} (h : s ≠ []) : namesL s = splitL s := by unfold namesL; rw [if_neg h]
theorem names_nil : namesL [] = [] := rfl
set_option maxRecDepth 100000 in
set_option maxHeartbeats 4000000 in
theorem rcheck_any (s : Txt) (w : World) (hs : s.length ≤ 4000000) :
    Calls Tryd.prog 11 #[.string ⟨s.toArray⟩] w fun e w' => e = .returned (.int .i64 (codeN s)) ∧ Below w.heap.size w w' := by
  by_cases hl : 255 < s.length
  · have HC := Lib.hid (code_long hl)
    go_enter Tryd.func11, Tryd.ntmps11
    go_wp2_with fail
    go_ret
    exact ⟨by rw [HC.out]; rfl, Below.refl _ _⟩
  · have HL := Lib.hid hl
    have HCB := Lib.hid (code_bad hl)
    have HCO := Lib.hid (code_ok hl)
    have HSP := Lib.hid (rsplit_any s w (by omega))
    have HNS := Lib.hid (namesL_short s)
    go_enter Tryd.func11, Tryd.ntmps11
    go_wp2_with fail
    refine HSP.out.mono ?_
    rintro e w2 ⟨v, rfl, hv, hb2⟩
    have hnl := namesL_len s
    obtain ⟨L, hL⟩ : ∃ L, namesL s = L := ⟨_, rfl⟩
    rw [hL] at hv hnl HNS
    have HLN := Lib.hid hL
    have HV := Lib.hid (ownS_c hv)
    obtain ⟨va, vc, rfl⟩ := ownS_slice hv
    have HB2 := Lib.hid hb2
    clear hv hb2 hL HSP
    go_wp2_with fail
    go_loopw [4] (fun i wr => ∃ k : Nat, k ≤ L.length ∧ i = .int .i64 (k : Int) ∧ Hid (∀ j, j < k → pieceN (L.getD j []) ≠ none) ∧ Hid (Below w2.heap.size w2 wr)) (fun i _ => L.length - (intOf i).toNat)
    case atStart => exact ⟨0, Nat.zero_le _, rfl, Lib.hid (fun j hj => absurd hj (by omega)), Lib.hid (Below.refl _ _)⟩
    case round =>
      obtain ⟨k, hk, rfl, hG, hB⟩ := hrel
      have HBW : Hid (∀ W, Below wr.heap.size wr W → Below w.heap.size w W) := Lib.hid (fun W h => HB2.out.trans ((hB.out.trans (h.mono hB.out.size)).mono HB2.out.size))
      by_cases hlt : k < L.length
      · obtain ⟨⟨vb, vo, vf⟩, rfl, hvS, _, hxs⟩ := StrsC.at HV.out (by omega)
        have cx := (World.cell?_of_block (w := w2) (w' := wr) (a := (⟨vb, vo, vf⟩ : Addr).add k) (by rw [add_block]; exact hB.out.block vb hvS.2)).trans (hxs k hlt)
        have hxl : (L.getD k []).length ≤ 4000000 := by have := HNS.out _ (getD_in (d := []) hlt); omega
        have HAT := Lib.hid (atoms_any (L.getD k []) wr hxl)
        have HMEM : Hid (L.getD k [] ∈ L) := Lib.hid (getD_in (d := []) hlt)
        have hne : s ≠ [] := fun e => by
          have h := HLN.out
          rw [e, names_nil] at h
          rw [← h] at hlt; simp at hlt
        have HSL : Hid (splitL s = L) := Lib.hid (by rw [← names_split hne]; exact HLN.out)
        clear hxs hvS hne hxl
        generalize hx : L.getD k [] = x at *
        have HX := Lib.hid hx
        clear hx
        go_wp2_with fail
        refine HAT.out.mono ?_
        rintro e w5 ⟨hb5, he⟩
        have HB5 := Lib.hid hb5
        cases hq : signsGo x.length x with
        | none =>
          rw [hq] at he
          obtain ⟨v5, rfl⟩ := he
          have HC : Hid (codeN s = 60) := Lib.hid (HCB.out ⟨x, by rw [HSL.out]; exact HMEM.out, piece_bad.2 (Or.inr hq)⟩)
          clear hq HAT hb5
          go_wp2_with fail
          go_ret
          exact ⟨by rw [HC.out]; rfl, HBW.out _ HB5.out⟩
        | some l =>
          rw [hq] at he
          obtain ⟨v5, rfl, _, _⟩ := he
          have HQ := Lib.hid hq
          cases x with
          | nil =>
            have HC : Hid (codeN s = 60) := Lib.hid (HCB.out ⟨[], by rw [HSL.out]; exact HMEM.out, piece_bad.2 (Or.inl rfl)⟩)
            clear hq HAT hb5
            go_wp2_with fail
            go_ret
            exact ⟨by rw [HC.out]; rfl, HBW.out _ HB5.out⟩
          | cons c x =>
            have HP : Hid (pieceN (L.getD k []) ≠ none) := Lib.hid (by
              rw [HX.out]
              intro h
              rcases piece_bad.1 h with h | h
              · cases h
              · rw [HQ.out] at h; cases h)
            clear hq HAT hb5
            go_wp2_with fail
            go_roundw
            case rel => exact ⟨k + 1, by omega, by go_num, Lib.hid (fun j hj => by
              by_cases e : j = k
              · rw [e]; exact HP.out
              · exact hG.out j (by omega)), Lib.hid (hB.out.trans (HB5.out.mono hB.out.size))⟩
            case measure => simp [intOf]; omega
      · have HBF := Lib.hid (HBW.out wr (Below.refl _ _))
        by_cases h0 : L = []
        · have HC : Hid (codeN s = 60) := Lib.hid (HCB.out (by
            have hs0 : s = [] := Classical.byContradiction fun h => by
              have h2 := HLN.out
              rw [names_split h, h0] at h2
              exact splitL_ne s h2
            rw [hs0]; exact ⟨[], List.mem_cons_self, rfl⟩))
          have g0 : L.length = 0 := by rw [h0]; rfl
          have g1 : ((L.length : Int) == 0) = true := by rw [g0]; rfl
          clear h0
          go_wp2_with fail
          go_ret
          exact ⟨by rw [HC.out]; rfl, HBF.out⟩
        · have HC : Hid (codeN s = 0) := Lib.hid (HCO.out (fun t ht => by
            have hne : s ≠ [] := fun e => h0 (by rw [← HLN.out, e]; rfl)
            rw [← names_split hne, HLN.out] at ht
            obtain ⟨j, hj, rfl⟩ := List.getElem_of_mem ht
            have := hG.out j (by omega)
            rwa [show L.getD j [] = L[j] by simp [List.getD, List.getElem?_eq_getElem hj]] at this))
          have g0 : L.length ≠ 0 := fun h => h0 (List.length_eq_zero_iff.1 h)
          have g1 : ((L.length : Int) == 0) = false := by rw [beq_eq_false_iff_ne]; omega
          clear h0
          go_wp2_with fail
          go_ret
          exact ⟨by rw [HC.out]; rfl, HBF.out⟩
end Go.Proofs.YthigepjddfdbmaaDoor
