/- The walk of the law ShaShort. -/
import Derived.Test.YtplbcncbljcfmaaDoorShaBackAll
namespace Go.Proofs.YtplbcncbljcfmaaDoor
open Go.RowKit
attribute [local simp high] id_size id_zero

theorem str_eql (w : World) (x y : List UInt8) : (binOp .eql 9 (.string ⟨x.toArray⟩) (.string ⟨y.toArray⟩)).run Tryd.prog w = .ok (.bool (decide (x = y))) w := by
  have h : (binOp .eql 9 (.string ⟨x.toArray⟩) (.string ⟨y.toArray⟩)).run Tryd.prog w = .ok (.bool ((⟨x.toArray⟩ : ByteArray).toList == (⟨y.toArray⟩ : ByteArray).toList)) w := by
    simp [go_sem]
  rw [h, ByteArray.toList_eq, ByteArray.toList_eq]
  congr 2
  rw [Bool.eq_iff_iff]
  simp
theorem str_neq (w : World) (x y : List UInt8) : (binOp .neq 9 (.string ⟨x.toArray⟩) (.string ⟨y.toArray⟩)).run Tryd.prog w = .ok (.bool (decide (x ≠ y))) w := by
  have h : (binOp .neq 9 (.string ⟨x.toArray⟩) (.string ⟨y.toArray⟩)).run Tryd.prog w = .ok (.bool (!((⟨x.toArray⟩ : ByteArray).toList == (⟨y.toArray⟩ : ByteArray).toList))) w := by
    simp [go_sem]
  rw [h, ByteArray.toList_eq, ByteArray.toList_eq]
  congr 2
  rw [Bool.eq_iff_iff]
  simp
theorem str_take (w : World) (x : List UInt8) (n : Nat) (hn : n ≤ x.length) : (Instr.slice 9 (.string ⟨x.toArray⟩) none (some (.int .i64 (n : Int))) none).run Tryd.prog w = .ok (.string ⟨(x.take n).toArray⟩) w := by
  simp [Tryd.underlying9, go_sem, hn]
  rw [extract_list]; simp
theorem pfx_same_at {s t : List UInt8} {f k j : Nat} (h1 : k ≤ j) (h2 : j < pfx s t f k) : (s.getD j 0).toNat = (t.getD j 0).toNat := by
  induction f generalizing k with
  | zero => rw [pfx] at h2; omega
  | succ f ih =>
    rw [pfx] at h2
    by_cases e : (s.getD k 0).toNat = (t.getD k 0).toNat
    · rw [if_pos e] at h2
      by_cases hj : j = k
      · rw [hj]; exact e
      · exact ih (k := k + 1) (by omega) h2
    · rw [if_neg e] at h2; omega
theorem pfx_diff {s t : List UInt8} {f k : Nat} (h : pfx s t f k < k + f) : (s.getD (pfx s t f k) 0).toNat ≠ (t.getD (pfx s t f k) 0).toNat := by
  induction f generalizing k with
  | zero => rw [pfx] at h; omega
  | succ f ih =>
    by_cases e : (s.getD k 0).toNat = (t.getD k 0).toNat
    · have e2 : pfx s t (f + 1) k = pfx s t f (k + 1) := by rw [pfx, if_pos e]
      rw [e2] at h ⊢
      exact ih (by omega)
    · have e2 : pfx s t (f + 1) k = k := by rw [pfx, if_neg e]
      rw [e2]; exact e
theorem getD_take (l : List UInt8) (n j : Nat) (h : j < n) : (l.take n).getD j 0 = l.getD j 0 := by
  simp only [List.getD]; rw [List.getElem?_take, if_pos h]
theorem take_ne {s t : List UInt8} {n : Nat} (h : pfx s t 64 0 < 64) (hn : pfx s t 64 0 < n) : t.take n ≠ s.take n := by
  intro e
  have h1 := pfx_diff (s := s) (t := t) (f := 64) (k := 0) (by omega)
  have h2 := getD_take s n _ hn
  have h3 := getD_take t n _ hn
  rw [e, h2] at h3
  exact h1 (by rw [h3])
theorem take_eq {s t : List UInt8} (hs : s.length = 64) (ht : t.length = 64) : t.take (pfx s t 64 0) = s.take (pfx s t 64 0) := by
  have hle := pfx_lt64 s t
  apply List.ext_getElem (by rw [List.length_take, List.length_take]; omega)
  intro j h1 h2
  rw [List.length_take] at h1 h2
  have h3 := pfx_same_at (s := s) (t := t) (f := 64) (k := 0) (j := j) (by omega) (by omega)
  rw [List.getElem_take, List.getElem_take]
  rw [← getD_get (show j < s.length by omega), ← getD_get (show j < t.length by omega)]
  exact UInt8.toNat_inj.1 h3.symm
theorem stepN_ge (n c : Nat) : n ≤ stepN n c := by unfold stepN; split <;> omega
theorem shortAt_mono (s : List UInt8) (ts : List (List UInt8)) {i j : Nat} (h : i ≤ j) : shortAt s ts i ≤ shortAt s ts j := by
  induction j with
  | zero => rw [show i = 0 by omega]; exact Nat.le_refl _
  | succ j ih =>
    by_cases e : i = j + 1
    · rw [e]; exact Nat.le_refl _
    · exact Nat.le_trans (ih (by omega)) (stepN_ge _ _)
/-- Each other one begins otherwise. -/
theorem short_tells {l : List UInt8} {ts : List (List UInt8)} (hl : l.length = 32) (ht : ∀ j, j < ts.length → (ts.getD j []).length = 32) (j : Nat) (hj : j < ts.length) (hne : ts.getD j [] ≠ l) :
    (hexL (ts.getD j [])).take (shortAt (hexL l) ts ts.length) ≠ (hexL l).take (shortAt (hexL l) ts ts.length) := by
  have h1 := pfx_ne hl (ht j hj) (fun e => hne e.symm)
  have h2 := step_max hl (ht j hj) (fun e => hne e.symm) (shortAt (hexL l) ts j)
  have h3 := shortAt_mono (hexL l) ts (show j + 1 ≤ ts.length by omega)
  have h4 : shortAt (hexL l) ts (j + 1) = stepN (shortAt (hexL l) ts j) (pfx (hexL l) (hexL (ts.getD j [])) 64 0) := rfl
  exact take_ne h1 (by omega)
/-- One digit less would not tell, of the first j. -/
def lessB (l : List UInt8) (ts : List (List UInt8)) (n : Nat) : Nat → Bool
  | 0 => false
  | j + 1 => lessB l ts n j || (decide (ts.getD j [] ≠ l) && decide ((hexL (ts.getD j [])).take (n - 1) = (hexL l).take (n - 1)))
theorem lessB_of {l : List UInt8} {ts : List (List UInt8)} {n i j : Nat} (h : i < j) (h1 : ts.getD i [] ≠ l) (h2 : (hexL (ts.getD i [])).take (n - 1) = (hexL l).take (n - 1)) : lessB l ts n j = true := by
  induction j with
  | zero => omega
  | succ j ih =>
    rw [lessB]
    by_cases e : i = j
    · subst e; rw [decide_eq_true h1, decide_eq_true h2]; simp
    · rw [ih (by omega)]; rfl
theorem shortAt_wit {l : List UInt8} {ts : List (List UInt8)} (hl : l.length = 32) (ht : ∀ j, j < ts.length → (ts.getD j []).length = 32) (j : Nat) (hj : j ≤ ts.length) : shortAt (hexL l) ts j = 4 ∨ ∃ i, i < j ∧ ts.getD i [] ≠ l ∧ shortAt (hexL l) ts j = pfx (hexL l) (hexL (ts.getD i [])) 64 0 + 1 := by
  induction j with
  | zero => left; rfl
  | succ j ih =>
    have h4 : shortAt (hexL l) ts (j + 1) = stepN (shortAt (hexL l) ts j) (pfx (hexL l) (hexL (ts.getD j [])) 64 0) := rfl
    have keep : shortAt (hexL l) ts (j + 1) = shortAt (hexL l) ts j → (shortAt (hexL l) ts (j + 1) = 4 ∨ ∃ i, i < j + 1 ∧ ts.getD i [] ≠ l ∧ shortAt (hexL l) ts (j + 1) = pfx (hexL l) (hexL (ts.getD i [])) 64 0 + 1) := fun e => by
      rcases ih (by omega) with h | ⟨i, h1, h2, h3⟩
      · exact Or.inl (e.trans h)
      · exact Or.inr ⟨i, by omega, h2, e.trans h3⟩
    by_cases e : ts.getD j [] = l
    · exact keep (by rw [h4, e, step_same])
    · have h2 := step_max hl (ht j (by omega)) (fun k => e k.symm) (shortAt (hexL l) ts j)
      by_cases hm : pfx (hexL l) (hexL (ts.getD j [])) 64 0 + 1 ≤ shortAt (hexL l) ts j
      · exact keep (by rw [h4, h2]; omega)
      · exact Or.inr ⟨j, by omega, e, by rw [h4, h2]; omega⟩
theorem short_least {l : List UInt8} {ts : List (List UInt8)} (hl : l.length = 32) (ht : ∀ j, j < ts.length → (ts.getD j []).length = 32) : shortAt (hexL l) ts ts.length = 4 ∨ lessB l ts (shortAt (hexL l) ts ts.length) ts.length = true := by
  rcases shortAt_wit hl ht ts.length (Nat.le_refl _) with h | ⟨i, h1, h2, h3⟩
  · exact Or.inl h
  · right
    refine lessB_of h1 h2 ?_
    rw [h3, Nat.add_sub_cancel]
    exact take_eq (by rw [hexL_len, hl]) (by rw [hexL_len, ht i h1])
set_option maxRecDepth 100000 in
set_option maxHeartbeats 8000000 in
theorem short_law (S : Nat → Prop) (l : List UInt8) (v : Value) (ts : List (List UInt8)) (w : World) (hl : l.length = 32) (hts : ts.length ≤ 9223372036854775807) (hS : ∀ k, S k → k < w.heap.size) (hv : IDsC S w v ts) (hE : Env w) :
    Calls Tryd.prog 6 #[.agg (bv l).toArray, v] w (True' w) := by
  obtain ⟨a, cap, rfl⟩ := hv.shape
  have HS := Lib.hid hS
  have HV := Lib.hid hv
  have HL := Lib.hid hl
  have HE := Lib.hid hE
  have HT := Lib.hid hts
  have i1 : IDAt (w.alloc (.cells (bv l).toArray 25)) w.heap.size l := ⟨hl, new_five w _ _⟩
  have hb1 := (Below.refl w.heap.size w).alloc (Nat.le_refl _) (.cells (bv l).toArray 25)
  have hs1 : (w.alloc (.cells (bv l).toArray 25)).heap.size = w.heap.size + 1 := by simp
  have I1 := Lib.hid i1
  have B1 := Lib.hid hb1
  have zl : (bv l).length = n32 := by rw [bv_len, hl]; rfl
  have HSH := Lib.hid (fun S v W h1 h2 => short_any S l v ts W hl hts h1 h2)
  have HLE := Lib.hid (shortAt_le (hexL l) ts ts.length)
  have HTELL := Lib.hid (fun h => short_tells (ts := ts) hl h)
  have HLEAST := Lib.hid (fun h => short_least (ts := ts) hl h)
  clear hl hE i1 hb1 hS hv hts
  obtain ⟨n, hn⟩ : ∃ n, n = shortAt (hexL l) ts ts.length := ⟨_, rfl⟩
  rw [← hn] at HSH HLE HTELL HLEAST
  obtain ⟨sv, hsv⟩ : ∃ sv, sv = (hexL l).take n := ⟨_, rfl⟩
  rw [← hsv] at HSH HTELL
  have HH64 : Hid ((hexL l).length = 64) := Lib.hid (by rw [hexL_len, HL.out])
  have hsvl : sv.length = n := by rw [hsv, List.length_take, HH64.out]; have := HLE.out; omega
  have HSV := Lib.hid hsv
  obtain ⟨hn1, hn2⟩ := HLE.out
  clear hn hsv
  go_enter Tryd.func6, Tryd.ntmps6
  go_wp2_with fail
  generalize w.alloc (.cells (bv l).toArray 25) = w1 at *
  refine (awake_any _ (HE.out.on B1.out)).mono ?_
  rintro e w2 ⟨rfl, hb2⟩
  have hs2 := hb2.size
  have I2 := Lib.hid (I1.out.kept (hb2.block _ (by omega)))
  have B2 := Lib.hid (B1.out.trans (hb2.mono B1.out.size))
  have c1 := I2.out.cells
  clear hb2
  go_wp2_with fail
  refine (HSH.out S _ w2 (fun k hk => by have := HS.out k hk; omega) (HV.out.kept (fun k hk => ⟨hk, B2.out.block k (HS.out k hk)⟩))).mono ?_
  rintro e w3 ⟨rfl, hb3⟩
  have hs3 := hb3.size
  have I3 := Lib.hid (I2.out.kept (hb3.block _ (by omega)))
  have B3 := Lib.hid (B2.out.trans (hb3.mono B2.out.size))
  have c2 := I3.out.cells
  clear hb3 c1
  go_wp2_with fail
  refine (hex_any l _ HL.out).mono ?_
  rintro e w4 ⟨rfl, hb4⟩
  have hs4 := hb4.size
  have I4 := Lib.hid (I3.out.kept (hb4.block _ (by omega)))
  have B4 := Lib.hid (B3.out.trans (hb4.mono B3.out.size))
  clear hb4 c2
  have hst := fun W => str_take W (hexL l) n (by rw [HH64.out]; exact hn2)
  rw [← HSV.out] at hst
  have hsn : ∀ W, (binOp .neq 9 (.string ⟨sv.toArray⟩) (.string ⟨sv.toArray⟩)).run Tryd.prog W = .ok (.bool false) W := fun W => by rw [str_neq]; simp
  have g1 : decide ((n : Int) < 4) = false := by simp; omega
  have g2 : decide ((64 : Int) < (n : Int)) = false := by simp; omega
  obtain ⟨H, hH⟩ : ∃ H, H = hexL l := ⟨_, rfl⟩
  rw [← hH] at hst HSV HH64 ⊢
  have HHE := Lib.hid hH
  clear hH
  go_wp2_with fail
  clear hst hsn g1 g2
  have HNE : Hid (∀ j, j < ts.length → (ts.getD j []).length = 32) := Lib.hid (fun j hj => HV.out.len j hj)
  have HTE := Lib.hid (HTELL.out HNE.out)
  have HLA := Lib.hid (HLEAST.out HNE.out)
  clear HTELL HLEAST
  go_loopw [7, 36] (fun p i wr => ∃ j : Nat, j ≤ ts.length ∧ i = .int .i64 j ∧ p = .bool (lessB l ts n j) ∧ IDAt wr w.heap.size l ∧ Below w.heap.size w wr ∧ w.heap.size < wr.heap.size) (fun _ i _ => ts.length - (intOf i).toNat)
  case atStart => exact ⟨0, Nat.zero_le _, rfl, rfl, I4.out, B4.out, by omega⟩
  case round =>
    obtain ⟨j, hj, rfl, rfl, hid, hbw, hsz⟩ := hrel
    have HBW := Lib.hid hbw
    have HI2 := Lib.hid hid
    clear hbw hid I1 I2 I3 I4 B1 B2 B3 B4 hs1 hs2 hs3 hs4
    by_cases hlt : j < ts.length
    · have hv : IDsC S wr (.slice a ts.length cap) ts := HV.out.kept (fun k hk => ⟨hk, HBW.out.block k (HS.out k hk)⟩)
      rcases a with _ | a
      · rcases hv with ⟨h0, _⟩ | ⟨a', cap', h1, _⟩
        · rw [h0] at hlt; exact absurd hlt (by simp)
        · exact absurd h1 (by simp)
      have hts := HT.out
      have c4 := hv.cells j hlt
      have HTL := Lib.hid (hv.len j hlt)
      have HSTEP : Hid (lessB l ts n (j + 1) = (lessB l ts n j || (decide (ts.getD j [] ≠ l) && decide ((hexL (ts.getD j [])).take (n - 1) = (hexL l).take (n - 1))))) := Lib.hid rfl
      have HTJ := Lib.hid (HTE.out j hlt)
      clear hv
      generalize ts.getD j [] = t at *
      generalize lessB l ts n j = p at *
      have hal := Below.heap_alloc wr (.cells (bv zeros).toArray 25)
      have I3 := Lib.hid (IDAt.new wr)
      have I2 := Lib.hid (HI2.out.kept (hal _ (by omega)))
      have B3 := Lib.hid (HBW.out.alloc (by omega) (.cells (bv zeros).toArray 25))
      have c5 := I3.out.write (l := t) HTL.out
      have ztl : (bv t).length = n32 := by rw [bv_len, HTL.out]; rfl
      have hs3 : (wr.alloc (.cells (bv zeros).toArray 25)).heap.size = wr.heap.size + 1 := by simp
      clear hal
      go_upto_region 11 with fail
      have J3 := Lib.hid (I3.out.put (l := t) HTL.out)
      have J2 := Lib.hid (I2.out.kept (setRow_other _ wr.heap.size w.heap.size (bv t).toArray (by omega)))
      have JB := Lib.hid (below_setRow B3.out (show w.heap.size ≤ wr.heap.size by omega) (bv t).toArray)
      have hs4 : ((wr.alloc (.cells (bv zeros).toArray 25)).setRow wr.heap.size (bv t).toArray).heap.size = wr.heap.size + 1 := by simp [World.setRow, hs3]
      clear c4 c5 ztl I3 I2 B3 hs3 HI2 HBW
      generalize (wr.alloc (.cells (bv zeros).toArray 25)).setRow wr.heap.size (bv t).toArray = w5 at *
      have d1 := J3.out.cells
      have HHT := Lib.hid (fun W => hex_any t W HTL.out)
      have HTL64 : Hid ((hexL t).length = 64) := Lib.hid (by rw [hexL_len, HTL.out])
      obtain ⟨T, hT⟩ : ∃ T, T = hexL t := ⟨_, rfl⟩
      rw [← hT] at HHT HTL64 HSTEP HTJ
      rw [← HHE.out] at HSTEP
      clear hT
      go_wp2_with fail
      refine (HHT.out _).mono ?_
      rintro e w6 ⟨rfl, hb6⟩
      have hs6 := hb6.size
      have K3 := Lib.hid (J3.out.kept (w' := w6) (hb6.block _ (by omega)))
      have K2 := Lib.hid (J2.out.kept (w' := w6) (hb6.block _ (by omega)))
      have KB := Lib.hid (JB.out.trans (hb6.mono (by omega)))
      clear hb6 d1 J3 J2 JB
      have d1 := K3.out.cells
      have d2 := K2.out.cells
      have d3 : ∀ nq, (loadCellsFrom ⟨wr.heap.size, 0, none⟩ 0 n32 #[]).run Tryd.prog (w6.drewN nq) = .ok (bv t).toArray (w6.drewN nq) := fun nq => (K3.out.kept (w' := w6.drewN nq) rfl).cells
      have d4 : ∀ nq, (loadCellsFrom ⟨w.heap.size, 0, none⟩ 0 n32 #[]).run Tryd.prog (w6.drewN nq) = .ok (bv l).toArray (w6.drewN nq) := fun nq => (K2.out.kept (w' := w6.drewN nq) rfl).cells
      have hne := fun W => id_neq W HTL.out HL.out
      have hst := fun W => str_take W T n (by rw [HTL64.out]; exact hn2)
      have hw1 : IntKind.i64.wrap ((n : Int) - 1) = ((n - 1 : Nat) : Int) := by rw [IntWalk.i64_in _ (by omega)]; omega
      have hst1 := fun W => str_take W T (n - 1) (by rw [HTL64.out]; omega)
      have hst2 := fun W => str_take W sv (n - 1) (by rw [hsvl]; omega)
      have e2 : sv.take (n - 1) = H.take (n - 1) := by rw [HSV.out, List.take_take]; congr 1; omega
      rw [e2] at hst2
      have hdb : decide (T.take (n - 1) = H.take (n - 1)) = (T.take (n - 1) == H.take (n - 1)) := by
        rw [Bool.eq_iff_iff]; simp
      rw [hdb] at HSTEP
      clear hdb
      generalize n - 1 = m at *
      generalize T.take n = Tn at *
      generalize T.take m = Tm at *
      generalize H.take m = Hm at *
      clear e2
      by_cases htl : t = l
      · have hdt : decide (t ≠ l) = false := by simpa using htl
        rw [hdt] at hne HSTEP
        have HST : Hid (lessB l ts n (j + 1) = p) := Lib.hid (by rw [HSTEP.out]; simp)
        clear hdt HSTEP htl
        go_wp2_with fail
        cases p
        all_goals
          go_quiet (fail)
          go_wp2_with fail
          go_roundw
          case rel => exact ⟨j + 1, by omega, by go_num, by rw [HST.out], K2.out.kept rfl, KB.out.trans (below_drewN _ _ _), by show _ < w6.heap.size; omega⟩
          case measure => simp [intOf]; omega
      · have hdt : decide (t ≠ l) = true := by simpa using htl
        rw [hdt] at hne HSTEP
        have hdq : (Tn == sv) = false := by rw [beq_eq_false_iff_ne]; exact HTJ.out htl
        have HST : Hid (lessB l ts n (j + 1) = (p || (Tm == Hm))) := Lib.hid (by rw [HSTEP.out]; simp)
        clear hdt HSTEP htl
        go_wp2_with fail
        cases p
        all_goals
          go_quiet (fail)
          go_wp2_with fail
          go_roundw
          case rel => exact ⟨j + 1, by omega, by go_num, by rw [HST.out]; rfl, K2.out.kept rfl, KB.out.trans (below_drewN _ _ _), by show _ < w6.heap.size; omega⟩
          case measure => simp [intOf]; omega
    · have hjn : j = ts.length := by omega
      subst hjn
      have hts := HT.out
      by_cases h4 : n = 4
      · have g3 : ((n : Int) == 4) = true := by rw [h4]; rfl
        clear h4
        go_wp2_with fail
        go_ret
        exact ⟨rfl, HBW.out⟩
      · have g3 : ((n : Int) == 4) = false := by rw [beq_eq_false_iff_ne]; omega
        have HLQ : Hid (lessB l ts n ts.length = true) := Lib.hid (by
          rcases HLA.out with h | h
          · exact absurd h h4
          · exact h)
        clear h4
        generalize lessB l ts n ts.length = p at *
        obtain rfl := HLQ.out
        go_wp2_with fail
        go_ret
        exact ⟨rfl, HBW.out⟩
end Go.Proofs.YtplbcncbljcfmaaDoor
