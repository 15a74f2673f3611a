/- The law of merging again. -/
import Derived.Test.YtjlpdoppnhcjoaaDoorJnZa
import Derived.Test.YtjlpdoppnhcjoaaDoorJnZb
import Derived.Test.YtjlpdoppnhcjoaaDoorJnY
import Derived.Test.YtjlpdoppnhcjoaaDoorJnW
namespace Go.Proofs.YtjlpdoppnhcjoaaDoor
open Go.RowKit Go.Lib
attribute [local simp high] id_size n32_ne n34_ne file_size file_zero outcome_size n135_ne outcome_zero
theorem mergeT_ok {T : SrcN} {l : Nat → List FileN} (h : (mergeT T l).1 = 0) : ∀ i, i < 3 → filesN (l i) = 0 := by
  by_cases h0 : filesN (l 0) = 0
  · by_cases h1 : filesN (l 1) = 0
    · by_cases h2 : filesN (l 2) = 0
      · intro i hi
        have h3 : i = 0 ∨ i = 1 ∨ i = 2 := by omega
        rcases h3 with rfl | rfl | rfl <;> assumption
      · rw [mergeT_bad (T := T) (k := 2) (by omega) (fun j hj => by
          have h3 : j = 0 ∨ j = 1 := by omega
          rcases h3 with rfl | rfl <;> assumption) h2] at h
        exact absurd h h2
    · rw [mergeT_bad (T := T) (k := 1) (by omega) (fun j hj => by
        obtain rfl : j = 0 := by omega
        exact h0) h1] at h
      exact absurd h h1
  · rw [mergeT_bad (T := T) (k := 0) (by omega) (fun j hj => by omega) h0] at h
    exact absurd h h0
theorem join_len (T : SrcN) : ∀ (n : Nat) (l : Nat → List FileN), (joinG T n l).2.length ≤ totN l
  | 0, _ => Nat.zero_le _
  | n + 1, l => by
    cases hc : curAt l 3 with
    | none => rw [joinG_none hc]; exact Nat.zero_le _
    | some p =>
      have ht := tot_rest hc
      have ih := join_len T n (restK l p 3)
      rw [joinG_some hc]
      unfold stepG
      split
      · exact Nat.zero_le _
      · rw [List.length_append]
        have h1 : (decR T (outK l p 3) (stK l p 3)).2.toList.length ≤ 1 := by
          cases (decR T (outK l p 3) (stK l p 3)).2 <;> simp
        omega
theorem mergeT_len (T : SrcN) (l : Nat → List FileN) : (mergeT T l).2.length ≤ totN l := by
  unfold mergeT
  repeat' split
  all_goals first | exact Nat.zero_le _ | (show (upL _ _).length ≤ _; rw [upL_len]; exact join_len T _ l)
def againF (side files : List FileN) (i : Nat) : List FileN := if i = 1 then files else side
theorem again_kept (T : SrcN) {side files : List FileN} (h1 : filesN side = 0) (h2 : filesN files = 0) (w1 : ∀ f ∈ side, f.stamp < 18446744073709551616) (w2 : ∀ f ∈ files, f.stamp < 18446744073709551616) : (mergeT T (againF side files)).1 = 0 ∧ KeptL (mergeT T (againF side files)).2 files :=
  merge_as (j := 1) (by omega) (sideA T) (againF side files) rfl (fun i _ f hf => by
    unfold againF at hf
    split at hf
    · exact w2 f hf
    · exact w1 f hf) (fun i _ => by unfold againF; split <;> assumption)
theorem srcF_one (w : World) (cs : List Value) (hl : cs.length = n34) (h1 : ∀ u ∈ cs, u.oneCell' = true) : Src Tryd.prog n34 22 (.slice (some ⟨w.heap.size, 0, none⟩) 1 1) 1 cs (w.alloc (.cells cs.toArray 44)) :=
  Src.ofSlice _ Tryd.underlying22 _ 1 1 _ (by rw [hl, Nat.one_mul]) (fun j u hj => by
    have h0 := new_five w cs.toArray 44
    rw [add_pos, cell_of_row _ _ _ _ _ _ h0, Nat.zero_add]
    simpa using hj) h1
theorem file_info : (Tryd.prog.info? 44).map (fun i => (i.zero, i.size, i.bytes)) = some (some (.agg (rowL n34 (fileF noFile)).toArray), n34, 56) := by kernel_rfl
theorem file_zs : (Value.agg (rowL n34 (fileF noFile)).toArray).cells.size = n34 := by
  show (rowL n34 (fileF noFile)).toArray.size = _
  rw [List.size_toArray, rowL_len]
theorem fill_anyS (p : List UInt8) (f : Nat → UInt8) : (fillF p (bv (idL f))).size = 34 := by
  unfold fillF
  have key : ∀ (l : List (Value × Nat)) (A : Array Value), (List.foldl (fun cs x => cs.setIfInBounds (1 + x.snd) x.fst) A l).size = A.size := fun l => by
    induction l with
    | nil => intro A; rfl
    | cons x r ih => intro A; rw [List.foldl_cons, ih, Array.size_setIfInBounds]
  rw [key, List.size_toArray, List.length_set, rowL_len]; rfl
theorem bare_clear {ms M : List OutM} (h : ms.map bare = M) : M.all clearB = ms.all clearB := by
  rw [← h, List.all_map]; rfl
theorem bare_files {ms M : List OutM} (h : ms.map bare = M) : M.map fileO = ms.map fileO := by
  rw [← h, List.map_map]; rfl
set_option maxRecDepth 100000 in
set_option maxHeartbeats 16000000 in
theorem jagain_law (a : Nat → Option Addr) (c : Nat → Nat) (l : Nat → List FileN) (w : World) (hr : ∀ i, i < 3 → FilesC (fun k => k < w.heap.size) w (.slice (a i) (l i).length (c i)) (l i)) (hp : ∀ i, i < 3 → ∀ f ∈ l i, f.path.length ≤ 4194304 ∧ f.stamp < 18446744073709551616) (hl : ∀ i, i < 3 → (l i).length ≤ 4194304) (hE : PEnv w) :
    Calls Tryd.prog 6 #[.agg #[.slice (a 0) (l 0).length (c 0), .slice (a 1) (l 1).length (c 1), .slice (a 2) (l 2).length (c 2)]] w fun e w' => e = .returned (.bool true) ∧ Below w.heap.size w w' := by
  obtain ⟨i0, hi, hz0, hz1, hz2⟩ := info_parts file_info
  have k1 := new_five w #[.slice (a 0) (l 0).length (c 0), .slice (a 1) (l 1).length (c 1), .slice (a 2) (l 2).length (c 2)] 26
  have HB0 := Lib.hid ((Below.refl w.heap.size w).alloc (Nat.le_refl _) (.cells #[.slice (a 0) (l 0).length (c 0), .slice (a 1) (l 1).length (c 1), .slice (a 2) (l 2).length (c 2)] 26))
  have HSZ : Hid (w.heap.size < (w.alloc (.cells #[.slice (a 0) (l 0).length (c 0), .slice (a 1) (l 1).length (c 1), .slice (a 2) (l 2).length (c 2)] 26)).heap.size) := Lib.hid (by simp)
  have HK := Lib.hid k1
  have HR := Lib.hid (fun (W : World) (hW : Below w.heap.size w W) i (hi : i < 3) => (show FilesC (fun k => k < w.heap.size) W (.slice (a i) (l i).length (c i)) (l i) from (hr i hi).kept file_keeps (fun q hq => ⟨hq, hW.block q hq⟩)))
  have HP := Lib.hid hp
  have HLL := Lib.hid hl
  have HE := Lib.hid hE
  clear k1 hr hp hl hE
  go_enter Tryd.func6, Tryd.ntmps6
  go_upto_region 1 with fail
  generalize w.alloc (.cells #[.slice (a 0) (l 0).length (c 0), .slice (a 1) (l 1).length (c 1), .slice (a 2) (l 2).length (c 2)] 26) = w1 at *
  go_wp2_with fail
  refine (awakeJ_any w1 (HE.out.on HB0.out)).mono ?_
  rintro e w2 ⟨rfl, hb2⟩
  have HB2 := Lib.hid hb2
  have HBW2 : Hid (Below w.heap.size w w2) := Lib.hid (HB0.out.trans (hb2.mono HB0.out.size))
  have HCE := Lib.hid (fun (W : World) (hW : Below w1.heap.size w1 W) => (show W.cell? ⟨w.heap.size, 0, none⟩ = some (.slice (a 0) (l 0).length (c 0)) ∧ W.cell? ⟨w.heap.size, 1, none⟩ = some (.slice (a 1) (l 1).length (c 1)) ∧ W.cell? ⟨w.heap.size, 2, none⟩ = some (.slice (a 2) (l 2).length (c 2)) from by
    have hi := (hW.block w.heap.size HSZ.out).trans HK.out
    exact ⟨by rw [cell_of_row _ _ _ _ _ _ hi]; rfl, by rw [cell_of_row _ _ _ _ _ _ hi]; rfl, by rw [cell_of_row _ _ _ _ _ _ hi]; rfl⟩))
  clear hb2
  obtain ⟨b0, b1, b2⟩ := HCE.out w2 HB2.out
  have HSA := Lib.hid (small_any (fun _ => False) a c l (.slice none 0 0) [] w2 (fun _ h => h.elim) ⟨[], rfl, fun _ h => (by cases h), CellsC.nil _ _ _ _ _, fun j e cs h => by cases h⟩ (by show 0 ≤ 4194304; omega) (by show 0 ≤ 4194304; omega) HLL.out)
  obtain ⟨sb, hsb⟩ : ∃ b, smallB l [] = b := ⟨_, rfl⟩
  rw [hsb] at HSA
  have HSB := Lib.hid hsb
  clear hsb
  go_wp2_with fail
  refine HSA.out.mono ?_
  rintro e w3 ⟨rfl, hb3⟩
  have HB3 := Lib.hid (HB2.out.trans (hb3.mono HB2.out.size))
  have HBW3 : Hid (Below w.heap.size w w3) := Lib.hid (HBW2.out.trans (hb3.mono HBW2.out.size))
  clear hb3 b0 b1 b2 HSA HB2 HBW2
  cases sb
  · go_wp2_with fail
    go_ret
    exact ⟨rfl, HBW3.out⟩
  obtain ⟨b0, b1, b2⟩ := HCE.out w3 HB3.out
  have HMG : Hid (Calls Tryd.prog 10 #[.agg #[.slice (a 0) (l 0).length (c 0), .slice (a 1) (l 1).length (c 1), .slice (a 2) (l 2).length (c 2)], .iface 33 (.agg #[.slice none 0 0])] w3 (MergQ (mergeT (fun f => textOf f []) l) w3)) := Lib.hid
    (merg_any (fun q => q < w.heap.size) (.slice none 0 0) [] a c l w3 (fun q hq => Nat.lt_of_lt_of_le hq HBW3.out.size) ⟨[], rfl, fun _ h => (by cases h), CellsC.nil _ _ _ _ _, fun j e cs h => by cases h⟩ (by show 0 ≤ 4194304; omega) (fun _ h => (by cases h)) (HR.out w3 HBW3.out) (fun i hi f hf => (HP.out i hi f hf).1) (fun i hi f hf => (HP.out i hi f hf).2) (HE.out.on HBW3.out))
  obtain ⟨M, hM⟩ : ∃ M, mergeT (fun f => textOf f []) l = M := ⟨_, rfl⟩
  rw [hM] at HMG
  have HM := Lib.hid hM
  have HTOT : Hid (totN l ≤ 90) := Lib.hid (by
    have h := HSB.out
    unfold smallB at h
    rw [Bool.and_eq_true] at h
    exact of_decide_eq_true h.2)
  clear hM HSB
  go_wp2_with fail
  refine HMG.out.mono ?_
  rintro e w5 ⟨hb5, v5, c5, rfl, hc5, _, hm5⟩
  have HC5 := Lib.hid hc5
  have HM5 := Lib.hid hm5
  have HB5 := Lib.hid (HB3.out.trans (hb5.mono HB3.out.size))
  have HBW5 : Hid (Below w.heap.size w w5) := Lib.hid (HBW3.out.trans (hb5.mono HBW3.out.size))
  clear hb5 hc5 hm5 b0 b1 b2 HMG HB3 HBW3
  by_cases h0 : c5 = 0
  · subst h0
    obtain ⟨ms, hms, ho5⟩ := HM5.out rfl
    have hlm : ms.length ≤ 90 := by
      have h := mergeT_len (fun f => textOf f []) l
      rw [HM.out, ← hms, List.length_map] at h
      have := HTOT.out
      omega
    obtain ⟨fl, hfl⟩ : ∃ fl, ms.map fileO = fl := ⟨_, rfl⟩
    have HOK := Lib.hid (mergeT_ok (T := fun f => textOf f []) (l := l) (by rw [HM.out]; exact HC5.out.symm))
    have HFS : Hid (ms.all clearB = true → filesN fl = 0 ∧ ∀ f ∈ fl, f.stamp < 18446744073709551616 ∧ f.path.length ≤ 4194304) := Lib.hid (fun hcl => by
      have h := clean_files (T := fun f => textOf f []) HOK.out (fun i hi f hf => (HP.out i hi f hf).2) (by rw [HM.out]; exact HC5.out.symm) (by rw [HM.out, bare_clear hms]; exact hcl) (by rw [HM.out, ← hms, List.length_map]; omega)
      rw [HM.out, bare_files hms, hfl] at h
      refine ⟨h.1, fun f hf => ⟨(h.2 f hf).1, ?_⟩⟩
      obtain ⟨i, hi, g, hg, e⟩ := (h.2 f hf).2
      rw [e]; exact (HP.out i hi g hg).1)
    have HO5 := Lib.hid (fun (W : World) (hW : Below w5.heap.size w5 W) => (show OutsC (fun q => q < w5.heap.size) W v5 ms from RowsC.kept out_keeps ho5 (fun q hq => ⟨hq.2, hW.block q hq.2⟩)))
    obtain ⟨ma, mc, rfl⟩ := ho5.shape
    have HCL := Lib.hid (clean_any _ (.slice ma ms.length mc) ms w5 (fun q hq => hq) (HO5.out w5 (Below.refl _ _)) (by omega))
    obtain ⟨cl, hcl⟩ : ∃ b, ms.all clearB = b := ⟨_, rfl⟩
    rw [hcl] at HCL HFS
    have HFL0 := Lib.hid hfl
    clear hcl ho5 hms hfl HM HM5 HC5
    go_wp2_with fail
    refine HCL.out.mono ?_
    rintro e w6 ⟨rfl, hb6⟩
    have HB65 : Hid (Below w5.heap.size w5 w6) := Lib.hid hb6
    have HBW6 : Hid (Below w.heap.size w w6) := Lib.hid (HBW5.out.trans (hb6.mono HBW5.out.size))
    clear hb6 HCL
    cases cl
    · go_wp2_with fail
      go_ret
      exact ⟨rfl, HBW6.out⟩
    have HFS2 := Lib.hid (HFS.out rfl)
    clear HFS
    have hs65 := HB65.out.size
    go_wp2_with fail
    go_loopw [5, 35] (fun v i wr => ∃ (k : Nat) (css : List (List Value)), k ≤ ms.length ∧ i = .int .i64 (k : Int) ∧ Hid (OwnR fileRel 44 n34 (fun _ => False) wr w6.heap.size v css ((ms.take k).map fileO)) ∧ Hid (Below w6.heap.size w6 wr)) (fun _ i _ => ms.length - (intOf i).toNat)
    case atStart => exact ⟨0, [], Nat.zero_le _, rfl, Lib.hid (OwnR.nil _ _ _ _ _ _), Lib.hid (Below.refl _ _)⟩
    case round =>
      obtain ⟨k, css, hk, rfl, hO, hB⟩ := hrel
      by_cases hlt : k < ms.length
      · obtain ⟨g1, o1, rfl, hg1, _, _, hat1⟩ := OutsC.at (HO5.out wr (HB65.out.trans (hB.out.mono hs65))) (by omega)
        obtain ⟨hbx, hck⟩ := hat1 k hlt
        have h1 := out_one _ (tv_one hbx) n135
        have HTK : Hid ((ms.take (k + 1)).map fileO = (ms.take k).map fileO ++ [fileO (ms.getD k noneM)]) := Lib.hid (by
          rw [List.take_add_one, List.map_append]
          simp [List.getD, hlt])
        have HTL : Hid (((ms.take k).map fileO).length = k) := Lib.hid (by rw [List.length_map, List.length_take]; omega)
        clear hat1 hbx
        obtain ⟨x, hx⟩ : ∃ x, ms.getD k noneM = x := ⟨_, rfl⟩
        rw [hx] at hck h1 HTK
        clear hx
        have c1 := load_row wr g1 (o1 + k * n135) n135 (outF x.1) (fun j hj => hck j (by unfold n135 at hj; exact hj))
        have i1 := RF.new wr 42 n135 (outF noOut)
        have c2 := i1.write h1
        have HI := Lib.hid (i1.put (outF x.1))
        have HW := Lib.hid (below_setRow ((Below.refl wr.heap.size wr).alloc (Nat.le_refl _) (.cells (rowL n135 (outF noOut)).toArray 42)) (Nat.le_refl _) (rowL n135 (outF x.1)).toArray)
        have hol := rowL_len n135 (outF x.1)
        have hol2 := rowL_len n135 (outF noOut)
        clear hck i1 h1
        go_upto_region 12 with fail
        clear c1 c2 hol hol2
        generalize (wr.alloc (.cells (rowL n135 (outF noOut)).toArray 42)).setRow wr.heap.size (rowL n135 (outF x.1)).toArray = w7 at *
        have HB7 : Hid (Below w6.heap.size w6 w7) := Lib.hid (hB.out.trans (HW.out.mono hB.out.size))
        have HO7 := Lib.hid (hO.out.on (w' := w7) (fun _ _ _ _ _ _ h _ => h) (fun q hq _ => HW.out.block q hq) HW.out.size)
        have d0 : w7.cell? ⟨wr.heap.size, 0, none⟩ = some (.string ⟨x.1.path.toArray⟩) := HI.out.cell (k := 0) (by unfold n135; omega)
        have d2 := load_row w7 wr.heap.size 2 n32 (idF x.1.id) (fun j hj => by
          have e32 : n32 = 32 := rfl
          rw [HI.out.cell (k := 2 + j) (by unfold n135; omega)]; unfold outF idF
          rw [if_neg (by omega), if_neg (by omega), if_pos (by omega), show 2 + j - 2 = j by omega])
        rw [idL_row] at d2
        have d34 : w7.cell? ⟨wr.heap.size, 34, none⟩ = some (.float .f64 x.1.stamp) := by
          rw [HI.out.cell (k := 34) (by unfold n135; omega)]; unfold outF
          rw [if_neg (by omega), if_neg (by omega), if_neg (by omega), if_pos rfl]
        have b1 : (rowL n34 (fileF noFile) = []) = False := by simp [rowL, n34]
        have b2 : (bv (idL x.1.id)).length = n32 := by rw [bv_len, idL_len]; rfl
        have b3 := rowL_len n34 (fileF noFile)
        have b4 : (n34 < 1 + n32) = False := by simp [n34, n32]
        have b6 := fill_anyS x.1.path x.1.id
        have b7 := fill_end x.1.path x.1.id x.1.stamp
        have b8 := build_rowN n34 (fileF noFile) (fileF ⟨x.1.path, x.1.id, x.1.stamp⟩)
        have b9 : (16777216 < n34) = False := by simp [n34]
        unfold fillF at b6 b7
        have hol := rowL_len n34 (fileF ⟨x.1.path, x.1.id, x.1.stamp⟩)
        have hone := rowL_one (file_one ⟨x.1.path, x.1.id, x.1.stamp⟩ n34)
        have HRR : Hid (rowL n34 (fileF ⟨x.1.path, x.1.id, x.1.stamp⟩) = rowL n34 (fileF (fileO x))) := Lib.hid rfl
        generalize bv (idL x.1.id) = ix at *
        generalize rowL n34 (fileF ⟨x.1.path, x.1.id, x.1.stamp⟩) = R at *
        generalize x.1.stamp = sx at *
        generalize x.1.path = px at *
        obtain ⟨X, b5⟩ : ∃ X, List.foldl (fun (cs : Array Value) (x : Value × Nat) => cs.setIfInBounds (1 + x.snd) x.fst) ((rowL n34 (fileF noFile)).set 0 (.string ⟨px.toArray⟩)).toArray ix.zipIdx = X := ⟨_, rfl⟩
        rw [b5] at b6 b7
        obtain ⟨oa, oc, rfl⟩ := ownR_shape HO7.out
        have htl := HTL.out
        have hbs7 := HB7.out.size
        clear HI HW
        go_wp2_with (at_builtin; refine wpList_own_src _ rfl _ _ 22 22 rfl w6.heap.size 44 i0 (.agg (rowL n34 (fileF noFile)).toArray) n34 56 Tryd.underlying22 hi hz0 hz1 hz2 file_zs (by decide) _ _ _ rfl (World.ownsRow.alloc HO7.out.own _) _ 1 R rfl (srcF_one _ _ hol hone) (by unfold maxLen; omega) (by omega) (by simp; omega) ?_)
        intro v9 w9 hown9 hg9
        have HO7B : Hid (OwnR fileRel 44 n34 (fun _ => False) w7 w6.heap.size (.slice oa k oc) css ((ms.take k).map fileO)) := Lib.hid (by have h := HO7.out; rw [htl] at h; exact h)
        have O9 : Hid (OwnR fileRel 44 n34 (fun _ => False) w9 w6.heap.size v9 (css ++ [R]) ((ms.take (k + 1)).map fileO)) := Lib.hid (by
          rw [HTK.out]
          exact HO7B.out.push file_keeps (fun q hq _ => Below.heap_alloc _ _ _ hq) (by simp) hg9 hol hone (by rw [htl]; exact hown9) HRR.out)
        have B9 : Hid (Below w6.heap.size w6 w9) := Lib.hid (by
          have h1 : Below w6.heap.size w6 (w7.alloc (.cells R.toArray 44)) := HB7.out.alloc HB7.out.size _
          exact h1.grown hg9.gb h1.size (fun j hj => (World.ownsRow.lt HO7B.out.own j hj).1))
        clear hown9 hg9 hol hone d0 d2 d34 b1 b2 b3 b4 b5 b6 b7 b8 b9 htl
        go_wp2_with fail
        exact ⟨⟨k + 1, _, by omega, by go_num, O9, B9⟩, by simp [intOf]; omega⟩
      · obtain rfl : k = ms.length := by omega
        have hO2 := hO.out
        rw [List.take_length, HFL0.out] at hO2
        obtain ⟨fa, fc, rfl⟩ := ownR_shape hO2
        have hfln : fl.length = ms.length := by rw [← HFL0.out, List.length_map]
        have HFF := Lib.hid (fun (W : World) (hW : Below wr.heap.size wr W) => (show FilesC (fun q => q < wr.heap.size) W (.slice fa fl.length fc) fl from RowsC.kept file_keeps (hO2.rows file_keeps) (fun q hq => ⟨hq.2, hW.block q hq.2⟩)))
        have HBWr : Hid (Below w.heap.size w wr) := Lib.hid (HBW6.out.trans (hB.out.mono HBW6.out.size))
        have HB1r : Hid (Below w1.heap.size w1 wr) := Lib.hid (HB5.out.trans ((HB65.out.trans (hB.out.mono hs65)).mono HB5.out.size))
        have HLF : Hid (fl.length ≤ 90) := Lib.hid (by omega)
        have HCK := Lib.hid (fcheck_any _ _ fl wr (fun q hq => hq) (HFF.out wr (Below.refl _ _)) (fun f hf => (HFS2.out.2 f hf).2) (HE.out.on HBWr.out))
        rw [HFS2.out.1] at HCK
        clear hO hO2 hfln hB HO5 HB65 hs65 HBW6 HB5 HBW5
        go_wp2_with fail
        refine HCK.out.mono ?_
        rintro e w8 ⟨rfl, hb8⟩
        have HB8 : Hid (Below w1.heap.size w1 w8) := Lib.hid (HB1r.out.trans (hb8.mono HB1r.out.size))
        have HBW8 : Hid (Below w.heap.size w w8) := Lib.hid (HBWr.out.trans (hb8.mono HBWr.out.size))
        have HFF8 := Lib.hid (fun (W : World) (hW : Below w8.heap.size w8 W) => (show FilesC (fun q => q < w8.heap.size) W (.slice fa fl.length fc) fl from (HFF.out W (hb8.trans (hW.mono hb8.size))).kept file_keeps (fun q hq => ⟨Nat.lt_of_lt_of_le hq hb8.size, rfl⟩)))
        have hs8 := HBW8.out.size
        have hs18 := HB8.out.size
        clear hb8 HCK HFF HBWr HB1r
        go_wp2_with fail
        go_loopw [55] (fun i wr => ∃ k : Nat, k ≤ 2 ∧ i = .int .i64 (k : Int) ∧ Hid (Below w8.heap.size w8 wr)) (fun i _ => 2 - (intOf i).toNat)
        case atStart => exact ⟨0, by omega, rfl, Lib.hid (Below.refl _ _)⟩
        case round =>
          obtain ⟨k, hk, rfl, hB⟩ := hrel
          by_cases hlt : k < 2
          · have HBW : Hid (Below w.heap.size w wr) := Lib.hid (HBW8.out.trans (hB.out.mono hs8))
            have hv : wr.cell? ⟨w.heap.size, 1 + k, none⟩ = some (.slice (a (k + 1)) (l (k + 1)).length (c (k + 1))) := by
              obtain ⟨_, e1, e2⟩ := HCE.out wr (HB8.out.trans (hB.out.mono hs18))
              have h3 : k = 0 ∨ k = 1 := by omega
              rcases h3 with rfl | rfl
              · exact e1
              · exact e2
            have hsd := HR.out wr HBW.out (k + 1) (by omega)
            have hpd := HP.out (k + 1) (by omega)
            have hfd := HOK.out (k + 1) (by omega)
            have HKT := Lib.hid (again_kept (fun f => textOf f []) hfd HFS2.out.1 (fun f hf => (hpd f hf).2) (fun f hf => (HFS2.out.2 f hf).1))
            generalize l (k + 1) = sd at *
            generalize a (k + 1) = sa at *
            generalize c (k + 1) = sc at *
            have HMG : Hid (Calls Tryd.prog 10 #[.agg #[.slice sa sd.length sc, .slice fa fl.length fc, .slice sa sd.length sc], .iface 33 (.agg #[.slice none 0 0])] wr (MergQ (mergeT (fun f => textOf f []) (againF sd fl)) wr)) := Lib.hid
              (merg_any (fun q => q < wr.heap.size) (.slice none 0 0) [] (fun i => if i = 1 then fa else sa) (fun i => if i = 1 then fc else sc) (againF sd fl) wr (fun q hq => hq) ⟨[], rfl, fun _ h => (by cases h), CellsC.nil _ _ _ _ _, fun j e cs h => by cases h⟩ (by show 0 ≤ 4194304; omega) (fun _ h => (by cases h)) (fun i hi => by
                have h3 : i = 0 ∨ i = 1 ∨ i = 2 := by omega
                rcases h3 with rfl | rfl | rfl
                · exact hsd.kept file_keeps (fun q hq => ⟨Nat.lt_of_lt_of_le hq HBW.out.size, rfl⟩)
                · exact (HFF8.out wr hB.out).kept file_keeps (fun q hq => ⟨Nat.lt_of_lt_of_le hq hB.out.size, rfl⟩)
                · exact hsd.kept file_keeps (fun q hq => ⟨Nat.lt_of_lt_of_le hq HBW.out.size, rfl⟩)) (fun i _ f hf => by
                unfold againF at hf
                split at hf
                · exact (HFS2.out.2 f hf).2
                · exact (hpd f hf).1) (fun i _ f hf => by
                unfold againF at hf
                split at hf
                · exact (HFS2.out.2 f hf).1
                · exact (hpd f hf).2) (HE.out.on HBW.out))
            clear hsd hpd hfd
            generalize mergeT (fun f => textOf f []) (againF sd fl) = M at *
            generalize sd.length = sn at *
            go_wp2_with fail
            refine HMG.out.mono ?_
            rintro e w9 ⟨hb9, v9, c9, rfl, hc9, _, hm9⟩
            obtain rfl : c9 = 0 := by rw [hc9]; exact HKT.out.1
            obtain ⟨ns, hns, ho9⟩ := hm9 rfl
            have HKE : Hid (KeptL ns fl) := Lib.hid (kept_bare hns HKT.out.2)
            have HB9 : Hid (Below w8.heap.size w8 w9) := Lib.hid (hB.out.trans (hb9.mono hB.out.size))
            have HML := Lib.hid HKE.out.len
            have HO9 := Lib.hid (fun (W : World) (hW : Below w9.heap.size w9 W) => (show OutsC (fun q => q < w9.heap.size) W v9 ns from RowsC.kept out_keeps ho9 (fun q hq => ⟨hq.2, hW.block q hq.2⟩)))
            have HFL := Lib.hid (fun (W : World) (hW : Below w9.heap.size w9 W) => (show FilesC (fun q => q < w9.heap.size) W (.slice fa fl.length fc) fl from (HFF8.out W (HB9.out.trans (hW.mono HB9.out.size))).kept file_keeps (fun q hq => ⟨Nat.lt_of_lt_of_le hq HB9.out.size, rfl⟩)))
            obtain ⟨na, nc, rfl⟩ := ho9.shape
            have hln : ns.length ≤ 90 := by rw [HML.out]; exact HLF.out
            have HCL := Lib.hid (clean_any _ (.slice na ns.length nc) ns w9 (fun q hq => hq) (HO9.out w9 (Below.refl _ _)) (by omega))
            rw [HKE.out.clear] at HCL
            clear hb9 hc9 hm9 hns ho9 hv HMG HBW hB HKT
            go_wp2_with fail
            refine HCL.out.mono ?_
            rintro e w10 ⟨rfl, hb10⟩
            have HB10 : Hid (Below w9.heap.size w9 w10) := Lib.hid hb10
            rw [← HML.out]
            clear hb10 HCL
            have HO10 := Lib.hid (fun (W : World) (hW : Below w10.heap.size w10 W) => HO9.out W (HB10.out.trans (hW.mono HB10.out.size)))
            have HFL10 := Lib.hid (fun (W : World) (hW : Below w10.heap.size w10 W) => HFL.out W (HB10.out.trans (hW.mono HB10.out.size)))
            have hs65 := HB10.out.size
            go_wp2_with fail
            go_loopw [85] (fun i wr => ∃ q : Nat, q ≤ ns.length ∧ i = .int .i64 (q : Int) ∧ Hid (Below w10.heap.size w10 wr)) (fun i _ => ns.length - (intOf i).toNat)
            case atStart => exact ⟨0, by omega, rfl, Lib.hid (Below.refl _ _)⟩
            case round =>
              obtain ⟨q, hq, rfl, hB⟩ := hrel
              by_cases hlt : q < ns.length
              · have hql : q < fl.length := by rw [← HML.out]; exact hlt
                obtain ⟨g1, o1, e1, hg1, _, _, hat1⟩ := OutsC.at (HO10.out wr hB.out) (by omega)
                subst e1
                obtain ⟨hbx, hck⟩ := hat1 q hlt
                obtain ⟨g2, o2, e2, hg2, _, _, hat2⟩ := FilesC.at (HFL10.out wr hB.out) (by omega)
                subst e2
                have hfk := hat2 q hql
                have hkp := KeptL.at HKE.out q hql
                have h1 := out_one _ (tv_one hbx) n135
                clear hat1 hat2 hbx
                obtain ⟨x, hx⟩ : ∃ x, ns.getD q noneM = x := ⟨_, rfl⟩
                obtain ⟨y, hy⟩ : ∃ y, fl.getD q noFile = y := ⟨_, rfl⟩
                rw [hx] at hck hkp h1
                rw [hy] at hfk hkp
                clear hx hy
                obtain ⟨k1, k2, k3, k4⟩ := hkp
                have hbsz := hB.out.size
                have c1 := load_row wr g1 (o1 + q * n135) n135 (outF x.1) (fun j hj => hck j (by unfold n135 at hj; exact hj))
                have i1 := RF.new wr 42 n135 (outF noOut)
                have c2 := i1.write h1
                have HI := Lib.hid (i1.put (outF x.1))
                have HW := Lib.hid (below_setRow ((Below.refl wr.heap.size wr).alloc (Nat.le_refl _) (.cells (rowL n135 (outF noOut)).toArray 42)) (Nat.le_refl _) (rowL n135 (outF x.1)).toArray)
                have hol := rowL_len n135 (outF x.1)
                have hol2 := rowL_len n135 (outF noOut)
                have HFK := Lib.hid (fun (W : World) (hW : Below wr.heap.size wr W) j (hj : j < 34) => (show W.cell? ⟨g2, o2 + q * n34 + j, none⟩ = some (fileF y j) from (World.cell?_of_block (w := wr) (hW.block g2 (Nat.lt_of_lt_of_le (Nat.lt_of_lt_of_le hg2 hs65) hbsz))).trans (hfk j hj)))
                clear hck hfk i1 h1
                go_upto_region 25 with fail
                clear c1 c2 hol hol2
                generalize (wr.alloc (.cells (rowL n135 (outF noOut)).toArray 42)).setRow wr.heap.size (rowL n135 (outF x.1)).toArray = w5 at *
                have HF : Hid (∀ W : World, W.heap = w5.heap → W.cell? ⟨wr.heap.size, 1, none⟩ = some (.int .i64 1) ∧ W.cell? ⟨wr.heap.size, 0, none⟩ = some (.string ⟨y.path.toArray⟩) ∧ (loadCellsFrom ⟨wr.heap.size, 2, none⟩ 0 n32 #[]).run Tryd.prog W = .ok (bv (idL y.id)).toArray W ∧ W.cell? ⟨wr.heap.size, 34, none⟩ = some (.float .f64 x.1.stamp) ∧
                    W.cell? ⟨g2, o2 + q * n34, none⟩ = some (.string ⟨y.path.toArray⟩) ∧ (loadCellsFrom ⟨g2, o2 + q * n34 + 1, none⟩ 0 n32 #[]).run Tryd.prog W = .ok (bv (idL y.id)).toArray W ∧ W.cell? ⟨g2, o2 + q * n34 + 33, none⟩ = some (.float .f64 y.stamp)) := Lib.hid (fun W hW => by
                  have key : ∀ p : Addr, W.cell? p = w5.cell? p := fun p => World.cell?_of_block (by rw [hW])
                  have e32 : n32 = 32 := rfl
                  have hc := fun j (hj : j < n135) => HI.out.cell hj
                  have hd := fun j (hj : j < 34) => HFK.out w5 HW.out j hj
                  refine ⟨?_, ?_, ?_, ?_, ?_, ?_, ?_⟩
                  · rw [key, hc 1 (by unfold n135; omega)]; unfold outF; rw [if_neg (by omega), if_pos rfl, k1]
                  · rw [key, hc 0 (by unfold n135; omega)]; unfold outF; rw [if_pos rfl, k2]
                  · have h := load_row W wr.heap.size 2 n32 (idF x.1.id) (fun j hj => by
                      rw [key, hc (2 + j) (by unfold n135; omega)]; unfold outF idF
                      rw [if_neg (by omega), if_neg (by omega), if_pos (by omega), show 2 + j - 2 = j by omega])
                    rw [idL_row, k3] at h; exact h
                  · rw [key, hc 34 (by unfold n135; omega)]; unfold outF; rw [if_neg (by omega), if_neg (by omega), if_neg (by omega), if_pos rfl]
                  · have h := hd 0 (by omega)
                    rw [Nat.add_zero] at h
                    rw [key, h]; unfold fileF; rw [if_pos rfl]
                  · have h := load_row W g2 (o2 + q * n34 + 1) n32 (idF y.id) (fun j hj => by
                      rw [key, Nat.add_assoc (o2 + q * n34), hd (1 + j) (by omega)]; unfold fileF idF
                      rw [if_neg (by omega), if_pos (by omega), show 1 + j - 1 = j by omega])
                    rw [idL_row] at h; exact h
                  · rw [key, hd 33 (by omega)]; unfold fileF; rw [if_neg (by omega), if_neg (by omega)])
                have hng := fun W => id_neq W (idL_len y.id) (idL_len y.id)
                rw [decide_eq_false (fun h => h rfl)] at hng
                have hol : (bv (idL y.id)).length = n32 := by rw [bv_len, idL_len]; rfl
                have HS1 := Lib.hid (fun W => (rbits_any x.1.stamp W).mono (R' := fun e w' => e = .returned (.int .u64 (canonB y.stamp)) ∧ w' = W) (fun e w' h => ⟨by rw [h.1, k4], h.2.symm⟩))
                have HS2 := Lib.hid (fun W => (rbits_any y.stamp W).mono (R' := fun e w' => e = .returned (.int .u64 (canonB y.stamp)) ∧ w' = W) (fun e w' h => ⟨h.1, h.2.symm⟩))
                have HB5 : Hid (Below w10.heap.size w10 w5) := Lib.hid (hB.out.trans (HW.out.mono hB.out.size))
                have zF := fun n => HF.out (w5.drewN n) rfl
                have z1 := fun n => (zF n).1
                have z2 := fun n => (zF n).2.1
                have z3 := fun n => (zF n).2.2.1
                have z4 := fun n => (zF n).2.2.2.1
                have z5 := fun n => (zF n).2.2.2.2.1
                have z6 := fun n => (zF n).2.2.2.2.2.1
                have z7 := fun n => (zF n).2.2.2.2.2.2
                have hlo : (q : Int) < (fl.length : Int) := by omega
                clear zF HF k1 k2 k3 k4 HI HW HFK
                generalize x.1.stamp = sx at *
                generalize y.stamp = sy at *
                generalize canonB sy = cy at *
                generalize bv (idL y.id) = ix at *
                go_quiet ((go_at_call 12; first | (with_reducible exact Calls.quiet_of_same (HS1.out _)) | (with_reducible exact Calls.quiet_of_same (HS2.out _))))
                clear z1 z2 z3 z4 z5 z6 z7 hng hol
                have HB6 : Hid (Below w10.heap.size w10 (w5.drewN nq)) := Lib.hid (HB5.out.trans ((drewn _ _ _).mono HB5.out.size))
                generalize w5.drewN nq = w6 at *
                go_wp2_with fail
                exact ⟨⟨q + 1, by omega, by go_num, HB6⟩, by simp [intOf]; omega⟩
              · obtain rfl : q = ns.length := by omega
                have HB11 : Hid (Below w8.heap.size w8 wr) := Lib.hid (HB9.out.trans ((HB10.out.trans (hB.out.mono hs65)).mono HB9.out.size))
                rw [HML.out]
                go_wp2_with fail
                exact ⟨⟨k + 1, by omega, by go_num, HB11⟩, by simp [intOf]; omega⟩
          · obtain rfl : k = 2 := by omega
            go_wp2_with fail
            go_ret
            exact ⟨rfl, HBW8.out.trans (hB.out.mono hs8)⟩

  · have g0 : (c5 == 0) = false := by rw [beq_eq_false_iff_ne]; exact h0
    have g1 : (c5 != 0) = true := by rw [bne, g0]; rfl
    go_wp2_with fail
    go_ret
    exact ⟨rfl, HBW5.out⟩
end Go.Proofs.YtjlpdoppnhcjoaaDoor
