/- The law of sides. -/
import Derived.Test.YtjlpdoppnhcjoaaDoorJnX
import Derived.BigQuiet
namespace Go.Proofs.YtjlpdoppnhcjoaaDoor
open Go.RowKit Go.Lib
attribute [local simp high] id_size n32_ne n34_ne file_size outcome_size n135_ne outcome_zero
theorem kept_bare {ms : List OutM} {l : List FileN} {M : List OutM} (h : ms.map bare = M) (hk : KeptL M l) : KeptL ms l := by
  subst h
  induction ms generalizing l with
  | nil => exact hk
  | cons m r ih =>
    cases l with
    | nil => cases hk
    | cons f l => exact ⟨hk.1, ih hk.2⟩
/-- The three merges of the law: which snapshots. -/
def sidesF (b o : List FileN) (k i : Nat) : List FileN := if k = 0 then (if i = 1 then o else b) else if k = 1 then (if i = 2 then o else b) else (if i = 0 then b else o)
def sidesI (k i : Nat) : Bool := if k = 0 then decide (i = 1) else if k = 1 then decide (i = 2) else !decide (i = 0)
theorem sides_yes {b o : List FileN} {k i : Nat} (h : sidesI k i = true) : sidesF b o k i = o := by
  unfold sidesI at h
  unfold sidesF
  split at h
  · rename_i h0
    rw [if_pos h0, if_pos (of_decide_eq_true h)]
  · rename_i h0
    rw [if_neg h0]
    split at h
    · rename_i h1
      rw [if_pos h1, if_pos (of_decide_eq_true h)]
    · rename_i h1
      rw [if_neg h1, if_neg (by simpa using h)]
theorem sides_no {b o : List FileN} {k i : Nat} (h : sidesI k i = false) : sidesF b o k i = b := by
  unfold sidesI at h
  unfold sidesF
  split at h
  · rename_i h0
    rw [if_pos h0, if_neg (of_decide_eq_false h)]
  · rename_i h0
    rw [if_neg h0]
    split at h
    · rename_i h1
      rw [if_pos h1, if_neg (of_decide_eq_false h)]
    · rename_i h1
      rw [if_neg h1, if_pos (by simpa using h)]
theorem sides_kept (T : SrcN) (b o : List FileN) (hb : filesN b = 0) (ho : filesN o = 0) (hwb : ∀ f ∈ b, f.stamp < 18446744073709551616) (hwo : ∀ f ∈ o, f.stamp < 18446744073709551616) {k : Nat} (hk : k < 3) : (mergeT T (sidesF b o k)).1 = 0 ∧ KeptL (mergeT T (sidesF b o k)).2 o := by
  have hF : ∀ i, i < 3 → filesN (sidesF b o k i) = 0 := fun i _ => by
    unfold sidesF
    repeat' split
    all_goals assumption
  have hW : Words (sidesF b o k) := fun i _ f hf => by
    unfold sidesF at hf
    split at hf
    · split at hf
      · exact hwo f hf
      · exact hwb f hf
    · split at hf
      · split at hf
        · exact hwo f hf
        · exact hwb f hf
      · split at hf
        · exact hwb f hf
        · exact hwo f hf
  have h3 : k = 0 ∨ k = 1 ∨ k = 2 := by omega
  rcases h3 with rfl | rfl | rfl
  · exact merge_as (by omega) (sideA T) (sidesF b o 0) rfl hW hF
  · exact merge_as (by omega) (sideB T) (sidesF b o 1) rfl hW hF
  · exact merge_as (by omega) (sideC T) (sidesF b o 2) rfl hW hF
set_option maxRecDepth 100000 in
set_option maxHeartbeats 8000000 in
theorem jsides_law (vb vo : Value) (b o : List FileN) (w : World) (hvb : FilesC (fun k => k < w.heap.size) w vb b) (hvo : FilesC (fun k => k < w.heap.size) w vo o) (hpb : ∀ f ∈ b, f.path.length ≤ 4194304 ∧ f.stamp < 18446744073709551616) (hpo : ∀ f ∈ o, f.path.length ≤ 4194304 ∧ f.stamp < 18446744073709551616) (hE : PEnv w) :
    Calls Tryd.prog 3 #[vb, vo] w fun e w' => e = .returned (.bool true) ∧ Below w.heap.size w w' := by
  obtain ⟨ba, bc, rfl⟩ := RowsC.shape hvb
  obtain ⟨oa, oc, rfl⟩ := RowsC.shape hvo
  have HVB := Lib.hid (fun (W : World) (hW : Below w.heap.size w W) => (show FilesC (fun k => k < w.heap.size) W (.slice ba b.length bc) b from hvb.kept file_keeps (fun k hk => ⟨hk, hW.block k hk⟩)))
  have HVO := Lib.hid (fun (W : World) (hW : Below w.heap.size w W) => (show FilesC (fun k => k < w.heap.size) W (.slice oa o.length oc) o from hvo.kept file_keeps (fun k hk => ⟨hk, hW.block k hk⟩)))
  have HPB := Lib.hid hpb
  have HPO := Lib.hid hpo
  have HE := Lib.hid hE
  clear hvb hvo hpb hpo hE
  go_enter Tryd.func3, Tryd.ntmps3
  go_wp2_with fail
  refine (awakeJ_any w HE.out).mono ?_
  rintro e w1 ⟨rfl, hb1⟩
  have HB1 := Lib.hid hb1
  clear hb1
  have HC1 := Lib.hid (fcheck_any _ _ b w1 (fun k hk => Nat.lt_of_lt_of_le hk HB1.out.size) (HVB.out w1 HB1.out) (fun f hf => (HPB.out f hf).1) (HE.out.on HB1.out))
  obtain ⟨c1, hc1⟩ : ∃ c, filesN b = c := ⟨_, rfl⟩
  rw [hc1] at HC1
  have HF1 := Lib.hid hc1
  clear hc1
  go_wp2_with fail
  refine HC1.out.mono ?_
  rintro e w2 ⟨rfl, hb2⟩
  have HB2 := Lib.hid (HB1.out.trans (hb2.mono HB1.out.size))
  clear hb2 HC1 HB1
  by_cases h1 : c1 = 0
  · subst h1
    have HC2 := Lib.hid (fcheck_any _ _ o w2 (fun k hk => Nat.lt_of_lt_of_le hk HB2.out.size) (HVO.out w2 HB2.out) (fun f hf => (HPO.out f hf).1) (HE.out.on HB2.out))
    obtain ⟨c2, hc2⟩ : ∃ c, filesN o = c := ⟨_, rfl⟩
    rw [hc2] at HC2
    have HF2 := Lib.hid hc2
    clear hc2
    go_wp2_with fail
    refine HC2.out.mono ?_
    rintro e w3 ⟨rfl, hb3⟩
    have HB3 := Lib.hid (HB2.out.trans (hb3.mono HB2.out.size))
    clear hb3 HC2 HB2
    by_cases h2 : c2 = 0
    · subst h2
      have HSK := Lib.hid (fun k (hk : k < 3) => sides_kept (fun f => textOf f []) b o HF1.out HF2.out (fun f hf => (HPB.out f hf).2) (fun f hf => (HPO.out f hf).2) hk)
      have HLB := Lib.hid (files_few HF1.out)
      have HLO := Lib.hid (files_few HF2.out)
      have hs3 := HB3.out.size
      have k3 := new_five w3 #[.slice ba b.length bc, .slice oa o.length oc, .slice ba b.length bc, .slice ba b.length bc, .slice ba b.length bc, .slice oa o.length oc, .slice ba b.length bc, .slice oa o.length oc, .slice oa o.length oc] 26
      have HB4 := Lib.hid (HB3.out.alloc HB3.out.size (.cells #[.slice ba b.length bc, .slice oa o.length oc, .slice ba b.length bc, .slice ba b.length bc, .slice ba b.length bc, .slice oa o.length oc, .slice ba b.length bc, .slice oa o.length oc, .slice oa o.length oc] 26))
      have HK3 := Lib.hid k3
      clear k3
      go_upto_region 6 with fail
      go_wp2_with fail
      go_loopw [35] (fun i wr => ∃ k : Nat, k ≤ 3 ∧ i = .int .i64 (k : Int) ∧ Hid (Below w3.heap.size w3 wr) ∧ Hid (wr.heap[w3.heap.size]? = (w3.alloc (.cells #[.slice ba b.length bc, .slice oa o.length oc, .slice ba b.length bc, .slice ba b.length bc, .slice ba b.length bc, .slice oa o.length oc, .slice ba b.length bc, .slice oa o.length oc, .slice oa o.length oc] 26)).heap[w3.heap.size]? ∧ w3.heap.size < wr.heap.size)) (fun i _ => 3 - (intOf i).toNat)
      case atStart => exact ⟨0, by omega, rfl, Lib.hid ((Below.refl _ _).alloc (Nat.le_refl _) _), Lib.hid ⟨rfl, by simp⟩⟩
      case round =>
        obtain ⟨k, hk, rfl, hB, hA⟩ := hrel
        by_cases hlt : k < 3
        · have hblk := hA.out.1.trans HK3.out
          have HBW : Hid (Below w.heap.size w wr) := Lib.hid (HB3.out.trans (hB.out.mono hs3))
          obtain ⟨aF, haF⟩ : ∃ aF : Nat → Option Addr, aF = fun i => if (sidesI k i) = true then oa else ba := ⟨_, rfl⟩
          obtain ⟨cF, hcF⟩ : ∃ cF : Nat → Nat, cF = fun i => if (sidesI k i) = true then oc else bc := ⟨_, rfl⟩
          have hv : ∀ i, i < 3 → wr.cell? ⟨w3.heap.size, k * 3 + i, none⟩ = some (.slice (aF i) (sidesF b o k i).length (cF i)) := fun i hi => by
            rw [cell_of_row _ _ _ _ _ _ hblk, haF, hcF]
            have h3 : k = 0 ∨ k = 1 ∨ k = 2 := by omega
            have h4 : i = 0 ∨ i = 1 ∨ i = 2 := by omega
            rcases h3 with rfl | rfl | rfl <;> rcases h4 with rfl | rfl | rfl <;> rfl
          have hrow : ∀ i, i < 3 → FilesC (fun k => k < w.heap.size) wr (.slice (aF i) (sidesF b o k i).length (cF i)) (sidesF b o k i) := fun i _ => by
            rw [haF, hcF]
            cases hs : sidesI k i
            · rw [sides_no hs]; simp only [hs, Bool.false_eq_true, if_false]; exact HVB.out wr HBW.out
            · rw [sides_yes hs]; simp only [hs, if_true]; exact HVO.out wr HBW.out
          have hpw : ∀ i, i < 3 → ∀ f ∈ sidesF b o k i, f.path.length ≤ 4194304 ∧ f.stamp < 18446744073709551616 := fun i _ f hf => by
            cases hs : sidesI k i
            · rw [sides_no hs] at hf; exact HPB.out f hf
            · rw [sides_yes hs] at hf; exact HPO.out f hf
          have HSZ := Lib.hid hA.out.2
          have hsz := HSZ.out
          have HMG := Lib.hid (fun (W : World) (hW : Below w.heap.size w W) (hr : ∀ i, i < 3 → FilesC (fun k => k < w.heap.size) W (.slice (aF i) (sidesF b o k i).length (cF i)) (sidesF b o k i)) => (show Calls Tryd.prog 10 #[.agg #[.slice (aF 0) (sidesF b o k 0).length (cF 0), .slice (aF 1) (sidesF b o k 1).length (cF 1), .slice (aF 2) (sidesF b o k 2).length (cF 2)], .iface 33 (.agg #[.slice none 0 0])] W (MergQ (mergeT (fun f => textOf f []) (sidesF b o k)) W) from
            merg_any (fun q => q < w.heap.size) (.slice none 0 0) [] aF cF (sidesF b o k) W (fun q hq => Nat.lt_of_lt_of_le hq hW.size) ⟨[], rfl, fun _ h => (by cases h), CellsC.nil _ _ _ _ _, fun j e cs h => by cases h⟩ (by show 0 ≤ 4194304; omega) (fun _ h => (by cases h)) hr (fun i hi f hf => (hpw i hi f hf).1) (fun i hi f hf => (hpw i hi f hf).2) (HE.out.on hW)))
          have HRW := Lib.hid (fun (W : World) (hW : Below wr.heap.size wr W) i (hi : i < 3) => (show FilesC (fun k => k < w.heap.size) W (.slice (aF i) (sidesF b o k i).length (cF i)) (sidesF b o k i) from (hrow i hi).kept file_keeps (fun q hq => ⟨hq, hW.block q (Nat.lt_of_lt_of_le hq HBW.out.size)⟩)))
          have HKT := Lib.hid (HSK.out k hlt)
          have v0 := hv 0 (by omega)
          have v1 := hv 1 (by omega)
          have v2 := hv 2 (by omega)
          rw [Nat.add_zero] at v0
          clear hblk haF hcF hv hrow hpw
          generalize mergeT (fun f => textOf f []) (sidesF b o k) = M at *
          generalize (sidesF b o k 0).length = n0 at *
          generalize (sidesF b o k 1).length = n1 at *
          generalize (sidesF b o k 2).length = n2 at *
          generalize aF 0 = a0 at *
          generalize aF 1 = a1 at *
          generalize aF 2 = a2 at *
          generalize cF 0 = c0 at *
          generalize cF 1 = c1 at *
          generalize cF 2 = c2 at *
          go_wp2_with fail
          refine (HMG.out _ (HBW.out.alloc HBW.out.size _) (fun i hi => HRW.out _ ((Below.refl _ _).alloc (Nat.le_refl _) _) i hi)).mono ?_
          rintro e w5 ⟨hb5, v5, c5, rfl, hc5, _, hm5⟩
          obtain rfl : c5 = 0 := by rw [hc5]; exact HKT.out.1
          obtain ⟨ms, hms, ho5⟩ := hm5 rfl
          have HKE : Hid (KeptL ms o) := Lib.hid (kept_bare hms HKT.out.2)
          have HBA : Hid (Below wr.heap.size wr w5) := Lib.hid (by
            have h := (Below.refl wr.heap.size wr).alloc (Nat.le_refl _) (.cells #[.slice a0 n0 c0, .slice a1 n1 c1, .slice a2 n2 c2] 26)
            exact h.trans (hb5.mono h.size))
          have HB5 : Hid (Below w3.heap.size w3 w5) := Lib.hid (hB.out.trans (HBA.out.mono hB.out.size))
          have HA5 : Hid (w5.heap[w3.heap.size]? = (w3.alloc (.cells #[.slice ba b.length bc, .slice oa o.length oc, .slice ba b.length bc, .slice ba b.length bc, .slice ba b.length bc, .slice oa o.length oc, .slice ba b.length bc, .slice oa o.length oc, .slice oa o.length oc] 26)).heap[w3.heap.size]? ∧ w3.heap.size < w5.heap.size) := Lib.hid ⟨(HBA.out.block _ hsz).trans hA.out.1, Nat.lt_of_lt_of_le hsz HBA.out.size⟩
          have HML := Lib.hid HKE.out.len
          have HO5 := Lib.hid (fun (W : World) (hW : Below w5.heap.size w5 W) => (show OutsC (fun q => q < w5.heap.size) W v5 ms from RowsC.kept out_keeps ho5 (fun q hq => ⟨hq.2, hW.block q hq.2⟩)))
          have HBW5 : Hid (Below w.heap.size w w5) := Lib.hid (HB3.out.trans (HB5.out.mono hs3))
          have HFL := Lib.hid (fun (W : World) (hW : Below w5.heap.size w5 W) => (show FilesC (fun q => q < w5.heap.size) W (.slice oa o.length oc) o from (HVO.out W (HBW5.out.trans (hW.mono HBW5.out.size))).kept file_keeps (fun q hq => ⟨Nat.lt_of_lt_of_le hq HBW5.out.size, rfl⟩)))
          obtain ⟨ma, mc, rfl⟩ := ho5.shape
          have hlm : ms.length ≤ 256 := by rw [HML.out]; exact HLO.out
          have HCL := Lib.hid (clean_any _ (.slice ma ms.length mc) ms w5 (fun q hq => hq) (HO5.out w5 (Below.refl _ _)) (by omega))
          rw [HKE.out.clear] at HCL
          clear hb5 hc5 hm5 hms ho5 v0 v1 v2 HMG HRW HBW hB hA HBA HKT
          go_wp2_with fail
          refine HCL.out.mono ?_
          rintro e w6 ⟨rfl, hb6⟩
          have HB6 : Hid (Below w5.heap.size w5 w6) := Lib.hid hb6
          rw [← HML.out]
          clear hb6 HCL
          have HO6 := Lib.hid (fun (W : World) (hW : Below w6.heap.size w6 W) => HO5.out W (HB6.out.trans (hW.mono HB6.out.size)))
          have HFL6 := Lib.hid (fun (W : World) (hW : Below w6.heap.size w6 W) => HFL.out W (HB6.out.trans (hW.mono HB6.out.size)))
          have hs65 := HB6.out.size
          go_wp2_with fail
          go_loopw [62] (fun i wr => ∃ q : Nat, q ≤ ms.length ∧ i = .int .i64 (q : Int) ∧ Hid (Below w6.heap.size w6 wr)) (fun i _ => ms.length - (intOf i).toNat)
          case atStart => exact ⟨0, by omega, rfl, Lib.hid (Below.refl _ _)⟩
          case round =>
            obtain ⟨q, hq, rfl, hB⟩ := hrel
            by_cases hlt : q < ms.length
            · have hql : q < o.length := by rw [← HML.out]; exact hlt
              obtain ⟨g1, o1, e1, hg1, _, _, hat1⟩ := OutsC.at (HO6.out wr hB.out) (by omega)
              subst e1
              obtain ⟨hbx, hck⟩ := hat1 q hlt
              obtain ⟨g2, o2, e2, hg2, _, _, hat2⟩ := FilesC.at (HFL6.out wr hB.out) (by omega)
              subst e2
              have hfk := hat2 q hql
              have hkp := KeptL.at HKE.out q hql
              have h1 := out_one _ (tv_one hbx) n135
              clear hat1 hat2 hbx
              obtain ⟨x, hx⟩ : ∃ x, ms.getD q noneM = x := ⟨_, rfl⟩
              obtain ⟨y, hy⟩ : ∃ y, o.getD q noFile = y := ⟨_, rfl⟩
              rw [hx] at hck hkp h1
              rw [hy] at hfk hkp
              clear hx hy
              obtain ⟨k1, k2, k3, k4⟩ := hkp
              have hbsz := hB.out.size
              have c1 := load_row wr g1 (o1 + q * n135) n135 (outF x.1) (fun j hj => hck j (by unfold n135 at hj; exact hj))
              have i1 := RF.new wr 42 n135 (outF noOut)
              have c2 := i1.write h1
              have HI := Lib.hid (i1.put (outF x.1))
              have HW := Lib.hid (below_setRow ((Below.refl wr.heap.size wr).alloc (Nat.le_refl _) (.cells (rowL n135 (outF noOut)).toArray 42)) (Nat.le_refl _) (rowL n135 (outF x.1)).toArray)
              have hol := rowL_len n135 (outF x.1)
              have hol2 := rowL_len n135 (outF noOut)
              have HFK := Lib.hid (fun (W : World) (hW : Below wr.heap.size wr W) j (hj : j < 34) => (show W.cell? ⟨g2, o2 + q * n34 + j, none⟩ = some (fileF y j) from (World.cell?_of_block (w := wr) (hW.block g2 (Nat.lt_of_lt_of_le (Nat.lt_of_lt_of_le hg2 hs65) hbsz))).trans (hfk j hj)))
              clear hck hfk i1 h1
              go_upto_region 14 with fail
              clear c1 c2 hol hol2
              generalize (wr.alloc (.cells (rowL n135 (outF noOut)).toArray 42)).setRow wr.heap.size (rowL n135 (outF x.1)).toArray = w5 at *
              have HF : Hid (∀ W : World, W.heap = w5.heap → W.cell? ⟨wr.heap.size, 1, none⟩ = some (.int .i64 1) ∧ W.cell? ⟨wr.heap.size, 0, none⟩ = some (.string ⟨y.path.toArray⟩) ∧ (loadCellsFrom ⟨wr.heap.size, 2, none⟩ 0 n32 #[]).run Tryd.prog W = .ok (bv (idL y.id)).toArray W ∧ W.cell? ⟨wr.heap.size, 34, none⟩ = some (.float .f64 x.1.stamp) ∧
                  W.cell? ⟨g2, o2 + q * n34, none⟩ = some (.string ⟨y.path.toArray⟩) ∧ (loadCellsFrom ⟨g2, o2 + q * n34 + 1, none⟩ 0 n32 #[]).run Tryd.prog W = .ok (bv (idL y.id)).toArray W ∧ W.cell? ⟨g2, o2 + q * n34 + 33, none⟩ = some (.float .f64 y.stamp)) := Lib.hid (fun W hW => by
                have key : ∀ p : Addr, W.cell? p = w5.cell? p := fun p => World.cell?_of_block (by rw [hW])
                have e32 : n32 = 32 := rfl
                have hc := fun j (hj : j < n135) => HI.out.cell hj
                have hd := fun j (hj : j < 34) => HFK.out w5 HW.out j hj
                refine ⟨?_, ?_, ?_, ?_, ?_, ?_, ?_⟩
                · rw [key, hc 1 (by unfold n135; omega)]; unfold outF; rw [if_neg (by omega), if_pos rfl, k1]
                · rw [key, hc 0 (by unfold n135; omega)]; unfold outF; rw [if_pos rfl, k2]
                · have h := load_row W wr.heap.size 2 n32 (idF x.1.id) (fun j hj => by
                    rw [key, hc (2 + j) (by unfold n135; omega)]; unfold outF idF
                    rw [if_neg (by omega), if_neg (by omega), if_pos (by omega), show 2 + j - 2 = j by omega])
                  rw [idL_row, k3] at h; exact h
                · rw [key, hc 34 (by unfold n135; omega)]; unfold outF; rw [if_neg (by omega), if_neg (by omega), if_neg (by omega), if_pos rfl]
                · have h := hd 0 (by omega)
                  rw [Nat.add_zero] at h
                  rw [key, h]; unfold fileF; rw [if_pos rfl]
                · have h := load_row W g2 (o2 + q * n34 + 1) n32 (idF y.id) (fun j hj => by
                    rw [key, Nat.add_assoc (o2 + q * n34), hd (1 + j) (by omega)]; unfold fileF idF
                    rw [if_neg (by omega), if_pos (by omega), show 1 + j - 1 = j by omega])
                  rw [idL_row] at h; exact h
                · rw [key, hd 33 (by omega)]; unfold fileF; rw [if_neg (by omega), if_neg (by omega)])
              have hng := fun W => id_neq W (idL_len y.id) (idL_len y.id)
              rw [decide_eq_false (fun h => h rfl)] at hng
              have hol : (bv (idL y.id)).length = n32 := by rw [bv_len, idL_len]; rfl
              have HS1 := Lib.hid (fun W => (rbits_any x.1.stamp W).mono (R' := fun e w' => e = .returned (.int .u64 (canonB y.stamp)) ∧ w' = W) (fun e w' h => ⟨by rw [h.1, k4], h.2.symm⟩))
              have HS2 := Lib.hid (fun W => (rbits_any y.stamp W).mono (R' := fun e w' => e = .returned (.int .u64 (canonB y.stamp)) ∧ w' = W) (fun e w' h => ⟨h.1, h.2.symm⟩))
              have HB5 : Hid (Below w6.heap.size w6 w5) := Lib.hid (hB.out.trans (HW.out.mono hB.out.size))
              have zF := fun n => HF.out (w5.drewN n) rfl
              have z1 := fun n => (zF n).1
              have z2 := fun n => (zF n).2.1
              have z3 := fun n => (zF n).2.2.1
              have z4 := fun n => (zF n).2.2.2.1
              have z5 := fun n => (zF n).2.2.2.2.1
              have z6 := fun n => (zF n).2.2.2.2.2.1
              have z7 := fun n => (zF n).2.2.2.2.2.2
              have hlo : (q : Int) < (o.length : Int) := by omega
              clear zF HF k1 k2 k3 k4 HI HW HFK
              generalize x.1.stamp = sx at *
              generalize y.stamp = sy at *
              generalize canonB sy = cy at *
              generalize bv (idL y.id) = ix at *
              go_quiet ((go_at_call 12; first | (with_reducible exact Calls.quiet_of_same (HS1.out _)) | (with_reducible exact Calls.quiet_of_same (HS2.out _))))
              clear z1 z2 z3 z4 z5 z6 z7 hng hol
              have HB6 : Hid (Below w6.heap.size w6 (w5.drewN nq)) := Lib.hid (HB5.out.trans ((drewn _ _ _).mono HB5.out.size))
              generalize w5.drewN nq = w6 at *
              go_wp2_with fail
              exact ⟨⟨q + 1, by omega, by go_num, HB6⟩, by simp [intOf]; omega⟩
            · obtain rfl : q = ms.length := by omega
              have HB7 : Hid (Below w5.heap.size w5 wr) := Lib.hid (HB6.out.trans (hB.out.mono hs65))
              have HB8 : Hid (Below w3.heap.size w3 wr) := Lib.hid (HB5.out.trans (HB7.out.mono HB5.out.size))
              have HA8 : Hid (wr.heap[w3.heap.size]? = (w3.alloc (.cells #[.slice ba b.length bc, .slice oa o.length oc, .slice ba b.length bc, .slice ba b.length bc, .slice ba b.length bc, .slice oa o.length oc, .slice ba b.length bc, .slice oa o.length oc, .slice oa o.length oc] 26)).heap[w3.heap.size]? ∧ w3.heap.size < wr.heap.size) := Lib.hid ⟨(HB7.out.block _ HA5.out.2).trans HA5.out.1, Nat.lt_of_lt_of_le HA5.out.2 HB7.out.size⟩
              rw [HML.out]
              go_wp2_with fail
              exact ⟨⟨k + 1, by omega, by go_num, HB8, HA8⟩, by simp [intOf]; omega⟩
        · obtain rfl : k = 3 := by omega
          go_wp2_with fail
          go_ret
          exact ⟨rfl, HB3.out.trans (hB.out.mono hs3)⟩
    · have g0 : (c2 == 0) = false := by rw [beq_eq_false_iff_ne]; exact h2
      have g1 : (c2 != 0) = true := by rw [bne, g0]; rfl
      go_wp2_with fail
      go_ret
      exact ⟨rfl, HB3.out⟩
  · have g0 : (c1 == 0) = false := by rw [beq_eq_false_iff_ne]; exact h1
    have g1 : (c1 != 0) = true := by rw [bne, g0]; rfl
    go_wp2_with fail
    go_ret
    exact ⟨rfl, HB2.out⟩
end Go.Proofs.YtjlpdoppnhcjoaaDoor
