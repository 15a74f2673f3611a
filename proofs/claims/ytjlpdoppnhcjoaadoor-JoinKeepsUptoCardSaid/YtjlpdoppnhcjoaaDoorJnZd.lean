/- The laws' plain and laid; the reference's Find. -/
import Derived.Test.YtjlpdoppnhcjoaaDoorJnZc
namespace Go.Proofs.YtjlpdoppnhcjoaaDoor
open Go.RowKit Go.Lib
theorem rfile_size (w : World) : (sizeOf 84).run Tryd.prog w = .ok n34 w := by rw [Tryd.sizeOf84]; rfl
theorem rfile_zero (w : World) : (zeroValue 84).run Tryd.prog w = .ok (.agg (rowL n34 (fileF noFile)).toArray) w := by rw [Tryd.zeroValue84]; kernel_rfl
theorem blob_zero (w : World) : (zeroValue 67).run Tryd.prog w = .ok (.agg (rowL n34 (blobF noBlob)).toArray) w := by rw [Tryd.zeroValue67]; kernel_rfl
attribute [local simp high] id_size n32_ne n34_ne file_size file_zero rfile_size rfile_zero raw_size raw_zero blob_size blob_zero
theorem srcR_one (w : World) (cs : List Value) (hl : cs.length = n34) (h1 : ∀ u ∈ cs, u.oneCell' = true) : Src Tryd.prog n34 59 (.slice (some ⟨w.heap.size, 0, none⟩) 1 1) 1 cs (w.alloc (.cells cs.toArray 84)) :=
  Src.ofSlice _ Tryd.underlying59 _ 1 1 _ (by rw [hl, Nat.one_mul]) (fun j u hj => by
    have h0 := new_five w cs.toArray 84
    rw [add_pos, cell_of_row _ _ _ _ _ _ h0, Nat.zero_add]
    simpa using hj) h1
theorem rfile_info : (Tryd.prog.info? 84).map (fun i => (i.zero, i.size, i.bytes)) = some (some (.agg (rowL n34 (fileF noFile)).toArray), n34, 56) := by kernel_rfl
set_option maxRecDepth 100000 in
set_option maxHeartbeats 8000000 in
theorem plain_any (S : Nat → Prop) (v : Value) (l : List FileN) (w : World) (hS : ∀ k, S k → k < w.heap.size) (hv : FilesC S w v l) (hl : l.length ≤ 1048576) :
    Calls Tryd.prog 19 #[v] w fun e w' => ∃ v', e = .returned v' ∧ FilesC (fun k => w.heap.size ≤ k ∧ k < w'.heap.size) w' v' l ∧ Below w.heap.size w w' := by
  obtain ⟨i0, hi, hz0, hz1, hz2⟩ := info_parts rfile_info
  obtain ⟨la, lc, rfl⟩ := RowsC.shape hv
  have HV := Lib.hid (fun (W : World) (hW : Below w.heap.size w W) => (show FilesC S W (.slice la l.length lc) l from RowsC.kept file_keeps hv (fun k hk => ⟨hk, hW.block k (hS k hk)⟩)))
  clear hv
  go_enter Tryd.func19, Tryd.ntmps19
  go_wp2_with fail
  go_loopw [3, 8] (fun v i wr => ∃ (k : Nat) (css : List (List Value)), k ≤ l.length ∧ i = .int .i64 (k : Int) ∧ Hid (OwnR fileRel 84 n34 (fun _ => False) wr w.heap.size v css (l.take k)) ∧ Hid (Below w.heap.size w wr)) (fun _ i _ => l.length - (intOf i).toNat)
  case atStart => exact ⟨0, [], Nat.zero_le _, rfl, Lib.hid (OwnR.nil _ _ _ _ _ _), Lib.hid (Below.refl _ _)⟩
  case round =>
    obtain ⟨k, css, hk, rfl, hO, hB⟩ := hrel
    by_cases hlt : k < l.length
    · obtain ⟨g1, o1, rfl, hg1, _, _, hat1⟩ := FilesC.at (HV.out wr hB.out) (by omega)
      have hck := hat1 k hlt
      have HTK : Hid (l.take (k + 1) = l.take k ++ [l.getD k noFile]) := Lib.hid (by
        rw [List.take_add_one]
        simp [List.getD, hlt])
      have HTL : Hid ((l.take k).length = k) := Lib.hid (by rw [List.length_take]; omega)
      clear hat1
      obtain ⟨x, hx⟩ : ∃ x, l.getD k noFile = x := ⟨_, rfl⟩
      rw [hx] at hck HTK
      clear hx
      have h1 := file_one x n34
      have c1 := load_row wr g1 (o1 + k * n34) n34 (fileF x) (fun j hj => hck j (by unfold n34 at hj; exact hj))
      have i1 := RF.new wr 44 n34 (fileF noFile)
      have c2 := i1.write h1
      have HI := Lib.hid (i1.put (fileF x))
      have HW := Lib.hid (below_setRow ((Below.refl wr.heap.size wr).alloc (Nat.le_refl _) (.cells (rowL n34 (fileF noFile)).toArray 44)) (Nat.le_refl _) (rowL n34 (fileF x)).toArray)
      have hol := rowL_len n34 (fileF x)
      have hol2 := rowL_len n34 (fileF noFile)
      clear hck i1 h1
      go_upto_region 5 with fail
      clear c1 c2 hol hol2
      generalize (wr.alloc (.cells (rowL n34 (fileF noFile)).toArray 44)).setRow wr.heap.size (rowL n34 (fileF x)).toArray = w7 at *
      have HB7 : Hid (Below w.heap.size w w7) := Lib.hid (hB.out.trans (HW.out.mono hB.out.size))
      have HO7 := Lib.hid (hO.out.on (w' := w7) (fun _ _ _ _ _ _ h _ => h) (fun q hq _ => HW.out.block q hq) HW.out.size)
      have d0 : w7.cell? ⟨wr.heap.size, 0, none⟩ = some (.string ⟨x.path.toArray⟩) := HI.out.cell (k := 0) (by unfold n34; omega)
      have d2 := load_row w7 wr.heap.size 1 n32 (idF x.id) (fun j hj => by
        have e32 : n32 = 32 := rfl
        rw [HI.out.cell (k := 1 + j) (by unfold n34; omega)]; unfold fileF idF
        rw [if_neg (by omega), if_pos (by omega), show 1 + j - 1 = j by omega])
      rw [idL_row] at d2
      have d34 : w7.cell? ⟨wr.heap.size, 33, none⟩ = some (.float .f64 x.stamp) := by
        rw [HI.out.cell (k := 33) (by unfold n34; omega)]; unfold fileF
        rw [if_neg (by omega), if_neg (by omega)]
      have b1 : (rowL n34 (fileF noFile) = []) = False := by simp [rowL, n34]
      have b2 : (bv (idL x.id)).length = n32 := by rw [bv_len, idL_len]; rfl
      have b3 := rowL_len n34 (fileF noFile)
      have b4 : (n34 < 1 + n32) = False := by simp [n34, n32]
      have b6 := fill_anyS x.path x.id
      have b7 := fill_end x.path x.id x.stamp
      have b8 := build_rowN n34 (fileF noFile) (fileF ⟨x.path, x.id, x.stamp⟩)
      have b9 : (16777216 < n34) = False := by simp [n34]
      unfold fillF at b6 b7
      have hol := rowL_len n34 (fileF ⟨x.path, x.id, x.stamp⟩)
      have hone := rowL_one (file_one ⟨x.path, x.id, x.stamp⟩ n34)
      have HRR : Hid (∀ S w, fileRel S w x (rowL n34 (fileF ⟨x.path, x.id, x.stamp⟩))) := Lib.hid (fun _ _ => rfl)
      generalize bv (idL x.id) = ix at *
      generalize rowL n34 (fileF ⟨x.path, x.id, x.stamp⟩) = R at *
      generalize x.stamp = sx at *
      generalize x.path = px at *
      obtain ⟨X, b5⟩ : ∃ X, List.foldl (fun (cs : Array Value) (x : Value × Nat) => cs.setIfInBounds (1 + x.snd) x.fst) ((rowL n34 (fileF noFile)).set 0 (.string ⟨px.toArray⟩)).toArray ix.zipIdx = X := ⟨_, rfl⟩
      rw [b5] at b6 b7
      obtain ⟨oa, oc, rfl⟩ := ownR_shape HO7.out
      have htl := HTL.out
      have hbs7 := HB7.out.size
      clear HI HW
      go_wp2_with (at_builtin; refine wpList_own_src _ rfl _ _ 59 59 rfl w.heap.size 84 i0 (.agg (rowL n34 (fileF noFile)).toArray) n34 56 Tryd.underlying59 hi hz0 hz1 hz2 file_zs (by decide) _ _ _ rfl (World.ownsRow.alloc HO7.out.own _) _ 1 R rfl (srcR_one _ _ hol hone) (by unfold maxLen; omega) (by omega) (by simp; omega) ?_)
      intro v9 w9 hown9 hg9
      have HO7B : Hid (OwnR fileRel 84 n34 (fun _ => False) w7 w.heap.size (.slice oa k oc) css (l.take k)) := Lib.hid (by have h := HO7.out; rw [htl] at h; exact h)
      have O9 : Hid (OwnR fileRel 84 n34 (fun _ => False) w9 w.heap.size v9 (css ++ [R]) (l.take (k + 1))) := Lib.hid (by
        rw [HTK.out]
        exact HO7B.out.push file_keeps (fun q hq _ => Below.heap_alloc _ _ _ hq) (by simp) hg9 hol hone (by rw [htl]; exact hown9) (HRR.out _ _))
      have B9 : Hid (Below w.heap.size w w9) := Lib.hid (by
        have h1 : Below w.heap.size w (w7.alloc (.cells R.toArray 84)) := HB7.out.alloc HB7.out.size _
        exact h1.grown hg9.gb h1.size (fun j hj => (World.ownsRow.lt HO7B.out.own j hj).1))
      clear hown9 hg9 hol hone d0 d2 d34 b1 b2 b3 b4 b5 b6 b7 b8 b9 htl
      go_wp2_with fail
      exact ⟨⟨k + 1, _, by omega, by go_num, O9, B9⟩, by simp [intOf]; omega⟩
    · obtain rfl : k = l.length := by omega
      have hO2 := hO.out
      rw [List.take_length] at hO2
      obtain ⟨pa, pc, rfl⟩ := ownR_shape hO2
      have HR2 : Hid (FilesC (fun q => w.heap.size ≤ q ∧ q < wr.heap.size) wr (.slice pa l.length pc) l) := Lib.hid (RowsC.kept file_keeps (hO2.rows file_keeps) (fun q hq => ⟨⟨hq.1.elim (fun h => h) (fun h => h.elim), hq.2⟩, rfl⟩))
      clear hO hO2
      go_wp2_with fail
      go_ret
      exact ⟨_, rfl, HR2.out, hB.out⟩
theorem srcB_one (w : World) (cs : List Value) (hl : cs.length = n34) (h1 : ∀ u ∈ cs, u.oneCell' = true) : Src Tryd.prog n34 31 (.slice (some ⟨w.heap.size, 0, none⟩) 1 1) 1 cs (w.alloc (.cells cs.toArray 67)) :=
  Src.ofSlice _ Tryd.underlying31 _ 1 1 _ (by rw [hl, Nat.one_mul]) (fun j u hj => by
    have h0 := new_five w cs.toArray 67
    rw [add_pos, cell_of_row _ _ _ _ _ _ h0, Nat.zero_add]
    simpa using hj) h1
theorem blob_info : (Tryd.prog.info? 67).map (fun i => (i.zero, i.size, i.bytes)) = some (some (.agg (rowL n34 (blobF noBlob)).toArray), n34, 56) := by kernel_rfl
theorem blob_zs : (Value.agg (rowL n34 (blobF noBlob)).toArray).cells.size = n34 := by
  show (rowL n34 (blobF noBlob)).toArray.size = _
  rw [List.size_toArray, rowL_len]
def fillB (l : List Value) : Array Value := List.foldl (fun cs x => cs.setIfInBounds x.snd x.fst) (rowL n34 (blobF noBlob)).toArray l.zipIdx
theorem fillB_size (f : Nat → UInt8) : (fillB (bv (idL f))).size = 34 := by
  unfold fillB
  have key : ∀ (l : List (Value × Nat)) (A : Array Value), (List.foldl (fun cs x => cs.setIfInBounds x.snd x.fst) A l).size = A.size := fun l => by
    induction l with
    | nil => intro A; rfl
    | cons x r ih => intro A; rw [List.foldl_cons, ih, Array.size_setIfInBounds]
  rw [key, List.size_toArray, rowL_len]; rfl
theorem fillB_end (f : Nat → UInt8) (s : List UInt8) (bad : Int) : ((fillB (bv (idL f))).setIfInBounds 32 (.string ⟨s.toArray⟩)).setIfInBounds 33 (.int .i64 bad) = (rowL n34 (blobF ⟨f, s, bad⟩)).toArray := by kernel_rfl
set_option maxRecDepth 100000 in
set_option maxHeartbeats 8000000 in
theorem laid_any (S : Nat → Prop) (v : Value) (l : List BlobN) (w : World) (hS : ∀ k, S k → k < w.heap.size) (hv : RawsC S w v l) (hx : ∀ b ∈ l, b.text.length ≤ 1048576) (hl : l.length ≤ 1048576) :
    Calls Tryd.prog 14 #[v] w fun e w' => ∃ v', e = .returned v' ∧ BlobsC (fun k => w.heap.size ≤ k ∧ k < w'.heap.size) w' v' l ∧ Below w.heap.size w w' := by
  obtain ⟨i0, hi, hz0, hz1, hz2⟩ := info_parts blob_info
  obtain ⟨la, lc, rfl⟩ := RowsC.shape hv
  have HV := Lib.hid (fun (W : World) (hW : Below w.heap.size w W) => (show RawsC S W (.slice la l.length lc) l from RowsC.kept raw_keeps hv (fun k hk => ⟨hk, hW.block k (hS k hk)⟩)))
  have HX := Lib.hid hx
  clear hv
  go_enter Tryd.func14, Tryd.ntmps14
  go_wp2_with fail
  go_loopw [3, 8] (fun v i wr => ∃ (k : Nat) (css : List (List Value)), k ≤ l.length ∧ i = .int .i64 (k : Int) ∧ Hid (OwnR blobRel 67 n34 (fun _ => False) wr w.heap.size v css (l.take k)) ∧ Hid (Below w.heap.size w wr)) (fun _ i _ => l.length - (intOf i).toNat)
  case atStart => exact ⟨0, [], Nat.zero_le _, rfl, Lib.hid (OwnR.nil _ _ _ _ _ _), Lib.hid (Below.refl _ _)⟩
  case round =>
    obtain ⟨k, css, hk, rfl, hO, hB⟩ := hrel
    by_cases hlt : k < l.length
    · obtain ⟨g1, o1, rfl, hg1, _, _, hat1⟩ := RowsC.at (HV.out wr hB.out) (by omega)
      have he : l[k]? = some (l.getD k noBlob) := by simp [List.getD, hlt]
      obtain ⟨cs, hcl, ⟨tv, hcs, htv⟩, hck⟩ := hat1 k _ he
      have HTK : Hid (l.take (k + 1) = l.take k ++ [l.getD k noBlob]) := Lib.hid (by
        rw [List.take_add_one]
        simp [List.getD, hlt])
      have HTL : Hid ((l.take k).length = k) := Lib.hid (by rw [List.length_take]; omega)
      have HXL : Hid ((l.getD k noBlob).text.length ≤ 1048576) := Lib.hid (hx _ (List.mem_of_getElem? he))
      clear hat1 he
      obtain ⟨x, hxe⟩ : ∃ x, l.getD k noBlob = x := ⟨_, rfl⟩
      rw [hxe] at hcs htv HTK HXL
      clear hxe
      have h1 := raw_one (b := x) (tv := tv) (tv_one htv) n34
      have c1 := load_row wr g1 (o1 + k * n34) n34 (rawF x tv) (fun j hj => by
        rw [Nat.add_assoc]; exact hck j _ (by rw [hcs]; exact rowL_at _ hj))
      have i1 := RF.new wr 51 n34 noRaw
      have c2 := i1.write h1
      have HI := Lib.hid (i1.put (rawF x tv))
      have HW := Lib.hid (below_setRow ((Below.refl wr.heap.size wr).alloc (Nat.le_refl _) (.cells (rowL n34 noRaw).toArray 51)) (Nat.le_refl _) (rowL n34 (rawF x tv)).toArray)
      have hol := rowL_len n34 (rawF x tv)
      have hol2 := rowL_len n34 noRaw
      have HTV := Lib.hid (htv.kept (S' := S) (w' := (wr.alloc (.cells (rowL n34 noRaw).toArray 51)).setRow wr.heap.size (rowL n34 (rawF x tv)).toArray) (fun q hq => ⟨hq, HW.out.block q (Nat.lt_of_lt_of_le (hS q hq) hB.out.size)⟩))
      clear hck hcs hcl i1 h1 htv
      go_upto_region 5 with fail
      clear c1 c2 hol hol2
      generalize (wr.alloc (.cells (rowL n34 noRaw).toArray 51)).setRow wr.heap.size (rowL n34 (rawF x tv)).toArray = w7 at *
      have HB7 : Hid (Below w.heap.size w w7) := Lib.hid (hB.out.trans (HW.out.mono hB.out.size))
      have HO7 := Lib.hid (hO.out.on (w' := w7) (fun _ _ _ _ _ _ h _ => h) (fun q hq _ => HW.out.block q hq) HW.out.size)
      have d0 := load_row w7 wr.heap.size 0 n32 (idF x.id) (fun j hj => by
        have e32 : n32 = 32 := rfl
        rw [Nat.zero_add, HI.out.cell (k := j) (by unfold n34; omega)]; unfold rawF idF
        rw [if_pos (by omega)])
      rw [idL_row] at d0
      have d1 : w7.cell? ⟨wr.heap.size, 32, none⟩ = some tv := by
        rw [HI.out.cell (k := 32) (by unfold n34; omega)]; unfold rawF
        rw [if_neg (by omega), if_pos rfl]
      have d2 : w7.cell? ⟨wr.heap.size, 33, none⟩ = some (.int .i64 x.bad) := by
        rw [HI.out.cell (k := 33) (by unfold n34; omega)]; unfold rawF
        rw [if_neg (by omega), if_neg (by omega)]
      have hcv := bytes_str HTV.out
      have b1 : (rowL n34 (blobF noBlob) = []) = False := by simp [rowL, n34]
      have b2 : (bv (idL x.id)).length = n32 := by rw [bv_len, idL_len]; rfl
      have b3 := rowL_len n34 (blobF noBlob)
      have b4 : (n34 < n32) = False := by simp [n34, n32]
      have b6 := fillB_size x.id
      have b7 := fillB_end x.id x.text x.bad
      have b8 := build_rowN n34 (blobF noBlob) (blobF x)
      have b9 : (16777216 < n34) = False := by simp [n34]
      unfold fillB at b6 b7
      have hol := rowL_len n34 (blobF x)
      have hone := rowL_one (blob_one x n34)
      have HRR : Hid (∀ S w, blobRel S w x (rowL n34 (blobF x))) := Lib.hid (fun _ _ => rfl)
      obtain ⟨ta, tc, rfl⟩ := HTV.out.shape
      obtain ⟨id0, text0, bad0⟩ := x
      simp only [] at d0 d2 hcv b2 b6 b7 b8 hol hone HRR HXL HTV
      generalize bv (idL id0) = ix at *
      obtain ⟨R, hR⟩ : ∃ R, rowL n34 (blobF ⟨id0, text0, bad0⟩) = R := ⟨_, rfl⟩
      rw [hR] at b7 b8 hol hone HRR
      obtain ⟨X, b5⟩ : ∃ X, List.foldl (fun (cs : Array Value) (x : Value × Nat) => cs.setIfInBounds x.snd x.fst) (rowL n34 (blobF noBlob)).toArray ix.zipIdx = X := ⟨_, rfl⟩
      rw [b5] at b6 b7
      clear hR
      obtain ⟨oa, oc, rfl⟩ := ownR_shape HO7.out
      have htl := HTL.out
      have hbs7 := HB7.out.size
      clear HI HW
      go_wp2_with (at_builtin; refine wpList_own_src _ rfl _ _ 31 31 rfl w.heap.size 67 i0 (.agg (rowL n34 (blobF noBlob)).toArray) n34 56 Tryd.underlying31 hi hz0 hz1 hz2 blob_zs (by decide) _ _ _ rfl (World.ownsRow.alloc HO7.out.own _) _ 1 R rfl (srcB_one _ _ hol hone) (by unfold maxLen; omega) (by omega) (by simp; omega) ?_)
      intro v9 w9 hown9 hg9
      have HO7B : Hid (OwnR blobRel 67 n34 (fun _ => False) w7 w.heap.size (.slice oa k oc) css (l.take k)) := Lib.hid (by have h := HO7.out; rw [htl] at h; exact h)
      have O9 : Hid (OwnR blobRel 67 n34 (fun _ => False) w9 w.heap.size v9 (css ++ [R]) (l.take (k + 1))) := Lib.hid (by
        rw [HTK.out]
        exact HO7B.out.push blob_keeps (fun q hq _ => Below.heap_alloc _ _ _ hq) (by simp) hg9 hol hone (by rw [htl]; exact hown9) (HRR.out _ _))
      have B9 : Hid (Below w.heap.size w w9) := Lib.hid (by
        have h1 : Below w.heap.size w (w7.alloc (.cells R.toArray 67)) := HB7.out.alloc HB7.out.size _
        exact h1.grown hg9.gb h1.size (fun j hj => (World.ownsRow.lt HO7B.out.own j hj).1))
      clear hown9 hg9 hol hone d0 d1 d2 hcv b1 b2 b3 b4 b5 b6 b7 b8 b9 htl
      go_wp2_with fail
      exact ⟨⟨k + 1, _, by omega, by go_num, O9, B9⟩, by simp [intOf]; omega⟩
    · obtain rfl : k = l.length := by omega
      have hO2 := hO.out
      rw [List.take_length] at hO2
      obtain ⟨pa, pc, rfl⟩ := ownR_shape hO2
      have HR2 : Hid (BlobsC (fun q => w.heap.size ≤ q ∧ q < wr.heap.size) wr (.slice pa l.length pc) l) := Lib.hid (RowsC.kept blob_keeps (hO2.rows blob_keeps) (fun q hq => ⟨⟨hq.1.elim (fun h => h) (fun h => h.elim), hq.2⟩, rfl⟩))
      clear hO hO2
      go_wp2_with fail
      go_ret
      exact ⟨_, rfl, HR2.out, hB.out⟩
/-- Where a path stands; -1, where it doesn't. -/
def findN (p : List UInt8) : List FileN → Nat → Int
  | [], _ => -1
  | f :: l, k => if f.path = p then (k : Int) else findN p l (k + 1)
set_option maxRecDepth 100000 in
set_option maxHeartbeats 4000000 in
theorem find_any (S : Nat → Prop) (v : Value) (l : List FileN) (p : List UInt8) (w : World) (hv : FilesC S w v l) (hl : l.length ≤ 1048576) :
    Calls Tryd.prog 18 #[v, .string ⟨p.toArray⟩] w fun e w' => e = .returned (.int .i64 (findN p l 0)) ∧ w' = w := by
  obtain ⟨la, lc, rfl⟩ := RowsC.shape hv
  obtain ⟨R, hR⟩ : ∃ R, findN p l 0 = R := ⟨_, rfl⟩
  have HR : Hid (findN p (l.drop 0) 0 = R) := Lib.hid hR
  rw [hR]
  have HV := Lib.hid hv
  clear hv hR
  go_enter Tryd.func18, Tryd.ntmps18
  go_wp2_with fail
  go_loopw [5] (fun i wr => ∃ k : Nat, k ≤ l.length ∧ i = .int .i64 (k : Int) ∧ Hid (findN p (l.drop k) k = R) ∧ wr = w) (fun i _ => l.length - (intOf i).toNat)
  case atStart => exact ⟨0, Nat.zero_le _, rfl, HR, rfl⟩
  case round =>
    obtain ⟨k, hk, rfl, hE, rfl⟩ := hrel
    by_cases hlt : k < l.length
    · obtain ⟨g1, o1, rfl, _, _, _, hat⟩ := FilesC.at HV.out (by omega)
      have c0 := hat k hlt 0 (by omega)
      rw [Nat.add_zero] at c0
      change wr.cell? ⟨g1, o1 + k * n34, none⟩ = some (.string ⟨(l.getD k noFile).path.toArray⟩) at c0
      have HD : Hid (R = if (l.getD k noFile).path = p then (k : Int) else findN p (l.drop (k + 1)) (k + 1)) := Lib.hid (by
        rw [← hE.out, List.drop_eq_getElem_cons hlt]
        have e : l.getD k noFile = l[k] := by simp [List.getD, hlt]
        rw [e]; rfl)
      clear hat hE
      obtain ⟨q, hq⟩ : ∃ q, (l.getD k noFile).path = q := ⟨_, rfl⟩
      rw [hq] at c0 HD
      clear hq
      by_cases hqp : q = p
      · subst hqp
        have HD2 : Hid (R = (k : Int)) := Lib.hid (by rw [HD.out, if_pos rfl])
        go_wp2_with fail
        go_ret
        exact ⟨by rw [HD2.out]; rfl, rfl⟩
      · have hne : (q == p) = false := beq_eq_false_iff_ne.2 hqp
        have HD2 : Hid (findN p (l.drop (k + 1)) (k + 1) = R) := Lib.hid (by rw [HD.out, if_neg hqp])
        go_wp2_with fail
        exact ⟨⟨k + 1, by omega, by go_num, HD2, by first | rfl | trivial⟩, by simp [intOf]; omega⟩
    · have HD2 : Hid (R = -1) := Lib.hid (by rw [← hE.out, List.drop_eq_nil_of_le (by omega)]; rfl)
      go_wp2_with fail
      go_ret
      exact ⟨by rw [HD2.out]; rfl, rfl⟩
end Go.Proofs.YtjlpdoppnhcjoaaDoor
