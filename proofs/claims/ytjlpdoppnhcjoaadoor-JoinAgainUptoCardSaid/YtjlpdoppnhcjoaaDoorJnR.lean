/- The join of three snapshots: Merge. -/
import Derived.Test.YtjlpdoppnhcjoaaDoorJnP
namespace Go.Proofs.YtjlpdoppnhcjoaaDoor
open Go.RowKit Go.Lib
attribute [local simp high] files_size outcome_size id_size n135_ne n138_ne n32_ne n34_ne outcome_zero file_size files_zero
theorem ownR_shape {E : Type} {rel : (Nat → Prop) → World → E → List Value → Prop} {t : TypeId} {sz B : Nat} {S : Nat → Prop} {w : World} {v : Value} {css : List (List Value)} {es : List E} (h : OwnR rel t sz S w B v css es) : ∃ a c, v = .slice a es.length c := (own_cells h.own h.one).shape
theorem srcO_one (w : World) (cs : List Value) (hl : cs.length = n135) (h1 : ∀ u ∈ cs, u.oneCell' = true) : Src Tryd.prog n135 28 (.slice (some ⟨w.heap.size, 0, none⟩) 1 1) 1 cs (w.alloc (.cells cs.toArray 42)) :=
  Src.ofSlice _ Tryd.underlying28 _ 1 1 _ (by rw [hl, Nat.one_mul]) (fun j u hj => by
    have h0 := new_five w cs.toArray 42
    rw [add_pos, cell_of_row _ _ _ _ _ _ h0, Nat.zero_add]
    simpa using hj) h1
theorem fold_at : ∀ (l : List Value) (k : Nat) (A : Array Value) (j : Nat), (List.foldl (fun (cs : Array Value) (x : Value × Nat) => cs.setIfInBounds x.2 x.1) A (l.zipIdx k))[j]? = if k ≤ j ∧ j < k + l.length ∧ j < A.size then l[j - k]? else A[j]?
  | [], k, A, j => by rw [if_neg (by simp; omega)]; rfl
  | v :: l, k, A, j => by
    rw [List.zipIdx_cons, List.foldl_cons, fold_at l (k + 1) _ j, Array.size_setIfInBounds, List.length_cons]
    by_cases h : k = j
    · subst h
      rw [if_neg (by omega), Array.getElem?_setIfInBounds, if_pos rfl]
      by_cases h2 : k < A.size
      · rw [if_pos h2, if_pos (by omega), Nat.sub_self]; rfl
      · rw [if_neg h2, if_neg (by omega), Array.getElem?_eq_none (by omega)]
    · rw [Array.getElem?_setIfInBounds, if_neg h]
      by_cases h2 : k + 1 ≤ j ∧ j < k + 1 + l.length ∧ j < A.size
      · rw [if_pos h2, if_pos (by omega)]
        obtain ⟨d, rfl⟩ : ∃ d, j = k + 1 + d := ⟨j - (k + 1), by omega⟩
        rw [show k + 1 + d - (k + 1) = d by omega, show k + 1 + d - k = d + 1 by omega, List.getElem?_cons_succ]
      · rw [if_neg h2, if_neg (by omega)]
theorem out_info : (Tryd.prog.info? 42).map (fun i => (i.zero, i.size, i.bytes)) = some (some (.agg (rowL n135 (outF noOut)).toArray), n135, 192) := by kernel_rfl
theorem out_zs : (Value.agg (rowL n135 (outF noOut)).toArray).cells.size = n135 := by
  show (rowL n135 (outF noOut)).toArray.size = _
  rw [List.size_toArray, rowL_len]
/-- An outcome's cells, built into a row of one. -/
theorem build_out (F : Nat → Value) : List.foldl (fun (cs : Array Value) (x : Value × Nat) => cs.setIfInBounds x.2 x.1) (Array.map (fun x => (rowL n135 (outF noOut))[x % (rowL n135 (outF noOut)).length]?.getD default) (Array.range n135)) (rowL n135 F).zipIdx = (rowL n135 F).toArray := by
  have h1 : (Array.map (fun x => (rowL n135 (outF noOut))[x % (rowL n135 (outF noOut)).length]?.getD default) (Array.range n135)).size = n135 := by rw [Array.size_map, Array.size_range]
  generalize Array.map (fun x => (rowL n135 (outF noOut))[x % (rowL n135 (outF noOut)).length]?.getD default) (Array.range n135) = A at *
  have h2 := rowL_len n135 F
  generalize rowL n135 F = l at *
  apply Array.ext_getElem?
  intro j
  rw [fold_at, Nat.zero_add, Nat.sub_zero]
  by_cases h : j < n135
  · rw [if_pos ⟨Nat.zero_le _, by omega, by omega⟩]; simp
  · rw [if_neg (fun x => h (by omega)), Array.getElem?_eq_none (by omega), Array.getElem?_eq_none (by rw [List.size_toArray]; omega)]
attribute [local simp high] build_out
theorem und_left : Tryd.prog.underlying 26 = some (.array 3 22) := by kernel_rfl
theorem index_left (F : Nat → Value) {k : Nat} (hk : k < 3) (W : World) : (Instr.index 26 (.agg (rowL 3 F).toArray) (.int .i64 (k : Int))).run Tryd.prog W = .ok (F k) W := by
  have hk2 : 0 ≤ (k : Int) ∧ (k : Int) < 3 := by omega
  simp [Instr.index, run_underlying und_left, asIntOf, hk2, go_sem]
  rw [if_pos hk, rowL_at F hk]
  rfl
theorem mergeT_bad {T : SrcN} {l : Nat → List FileN} {k : Nat} (hk : k < 3) (h0 : ∀ j, j < k → filesN (l j) = 0) (h : filesN (l k) ≠ 0) : mergeT T l = (filesN (l k), []) := by
  have h3 : k = 0 ∨ k = 1 ∨ k = 2 := by omega
  unfold mergeT
  rcases h3 with rfl | rfl | rfl
  · rw [if_pos h]
  · rw [if_neg (by rw [h0 0 (by omega)]; simp), if_pos h]
  · rw [if_neg (by rw [h0 0 (by omega)]; simp), if_neg (by rw [h0 1 (by omega)]; simp), if_pos h]
theorem mergeT_go {T : SrcN} {l : Nat → List FileN} (h0 : ∀ j, j < 3 → filesN (l j) = 0) : mergeT T l = if (joinG T (totN l) l).1 ≠ 0 then ((joinG T (totN l) l).1, []) else (0, upL (joinG T (totN l) l).2 (joinG T (totN l) l).2.length) := by
  unfold mergeT
  rw [if_neg (by rw [h0 0 (by omega)]; simp), if_neg (by rw [h0 1 (by omega)]; simp), if_neg (by rw [h0 2 (by omega)]; simp)]
theorem files_few {l : List FileN} (h : filesN l = 0) : l.length ≤ 256 := by
  unfold filesN at h
  split at h
  · cases h
  · omega
/-- The lengths of the three lists that lie in a block. -/
def slenO : Option Value → Nat
  | some (.slice _ n _) => n
  | _ => 0
def leftM (w : World) (lb : Nat) : Nat := slenO (w.cell? ⟨lb, 0, none⟩) + slenO (w.cell? ⟨lb, 1, none⟩) + slenO (w.cell? ⟨lb, 2, none⟩)
theorem Left.meas {S : Nat → Prop} {w : World} {lb : Nat} {a : Nat → Option Addr} {c : Nat → Nat} {l : Nat → List FileN} (h : Left S w lb a c l) : leftM w lb = totN l := by
  unfold leftM totN
  rw [h.blk.cell (show 0 < 3 by omega), h.blk.cell (show 1 < 3 by omega), h.blk.cell (show 2 < 3 by omega)]; rfl
/-- The outcomes that lie under others are marked. -/
theorem block_any (S : Nat → Prop) (B : Nat) (v : Value) (l : List OutM) (css : List (List Value)) (w : World) (h : OwnR outRel 42 n135 S w B v css l) (hl : l.length ≤ 4194304) (hB : B ≤ w.heap.size) (w0 : World) (hw0 : w0.heap.size ≤ B) (hb : Below w0.heap.size w0 w) :
    Calls Tryd.prog 26 #[v] w fun e w' => e = .returned (.tuple #[]) ∧ (∃ css', OwnR outRel 42 n135 S w' B v css' (upL l l.length)) ∧ Below w0.heap.size w0 w' := by
  rcases h.own.2 with ⟨e, h0⟩ | ⟨g, cap, cur, rfl, hBg, hg, _⟩
  · subst e
    have hl0 : l = [] := List.length_eq_zero_iff.1 h0
    subst hl0
    have H := Lib.hid h
    have HB := Lib.hid hb
    clear h hb
    go_enter Tryd.func26, Tryd.ntmps26
    go_wp2_with fail
    go_loopw [2, 7] (fun f i wr => f = .string ⟨#[]⟩ ∧ i = .int .i64 0 ∧ wr = w) (fun _ _ _ => 0)
    case atStart => exact ⟨rfl, rfl, rfl⟩
    case round =>
      obtain ⟨rfl, rfl, rfl⟩ := hrel
      go_wp2_with fail
      go_end0
      exact ⟨rfl, ⟨_, H.out⟩, HB.out⟩
  · refine (block_own S B g cap l css w h hl (Array.getElem?_eq_some_iff.1 hg).1).mono ?_
    rintro e w' ⟨rfl, ho, hgr⟩
    refine ⟨rfl, ho, ?_⟩
    exact ⟨hgr.os.trans hb.os, hgr.tape.trans hb.tape, hgr.output.trans hb.output, Nat.le_trans hb.size hgr.size, fun q hq => (hgr.block q (Nat.lt_of_lt_of_le hq hb.size) (fun e => by injection e with e; omega)).trans (hb.block q hq)⟩
/-- What Merge answers. -/
def MergQ (M : Int × List OutM) (w : World) (e : Ending) (w' : World) : Prop :=
  Below w.heap.size w w' ∧ ∃ v c, e = .returned (.tuple #[v, .int .i64 c]) ∧ c = M.1 ∧ (c ≠ 0 → v = .slice none 0 0) ∧ (c = 0 → ∃ ms : List OutM, ms.map bare = M.2 ∧ OutsC (fun k => w.heap.size ≤ k ∧ k < w'.heap.size) w' v ms)
theorem stepG_bad {d : Int × Option OutM} {r : Int × List OutM} (h : d.1 ≠ 0) : stepG d r = (d.1, []) := by unfold stepG; rw [if_pos h]
theorem stepG_go {d : Int × Option OutM} {r : Int × List OutM} (h : d.1 = 0) : stepG d r = (r.1, d.2.toList ++ r.2) := by unfold stepG; rw [if_neg (by rw [h]; simp)]
set_option maxRecDepth 100000 in
set_option maxHeartbeats 16000000 in
theorem merg_any (S : Nat → Prop) (bl : Value) (bs : List BlobN) (a : Nat → Option Addr) (c : Nat → Nat) (l : Nat → List FileN) (w : World) (hS : ∀ k, S k → k < w.heap.size) (hb : BlobsC S w bl bs) (hl : bs.length ≤ 4194304) (ht : ∀ b ∈ bs, b.text.length ≤ 600)
    (hr : ∀ i, i < 3 → FilesC S w (.slice (a i) (l i).length (c i)) (l i)) (hp : ∀ i, i < 3 → ∀ f ∈ l i, f.path.length ≤ 4194304) (hst : ∀ i, i < 3 → ∀ f ∈ l i, f.stamp < 18446744073709551616) (hE : PEnv w) :
    Calls Tryd.prog 10 #[.agg (rowL 3 (fun i => .slice (a i) (l i).length (c i))).toArray, .iface 33 (.agg #[bl])] w (MergQ (mergeT (fun f => textOf f bs) l) w) := by
  unfold MergQ
  obtain ⟨i0, hi, hz0, hz1, hz2⟩ := info_parts out_info
  obtain ⟨T, hT⟩ : ∃ T : SrcN, (fun f => textOf f bs) = T := ⟨_, rfl⟩
  rw [hT]
  obtain ⟨M, hM⟩ : ∃ M, mergeT T l = M := ⟨_, rfl⟩
  rw [hM]
  have HT := Lib.hid hT
  have HM := Lib.hid hM
  have i1 : RF (w.alloc (.cells (rowL 3 (fun i => .slice (a i) (l i).length (c i))).toArray 26)) w.heap.size 26 3 (fun i => .slice (a i) (l i).length (c i)) := RF.new _ _ _ _
  have HB0 := Lib.hid ((Below.refl w.heap.size w).alloc (Nat.le_refl _) (.cells (rowL 3 (fun i => .slice (a i) (l i).length (c i))).toArray 26))
  have HI1 := Lib.hid i1
  have HBL := Lib.hid (fun (W : World) (hW : Below w.heap.size w W) => (show BlobsC S W bl bs from hb.kept blob_keeps (fun k hk => ⟨hk, hW.block k (hS k hk)⟩)))
  have HRW := Lib.hid (fun (W : World) (hW : Below w.heap.size w W) i (hi : i < 3) => (show FilesC S W (.slice (a i) (l i).length (c i)) (l i) from (hr i hi).kept file_keeps (fun k hk => ⟨hk, hW.block k (hS k hk)⟩)))
  have HP := Lib.hid hp
  have HST := Lib.hid hst
  have HE := Lib.hid hE
  have hol := rowL_len 3 (fun i => Value.slice (a i) (l i).length (c i))
  clear hT hM i1 hp hst hE hb hr
  go_enter Tryd.func10, Tryd.ntmps10
  go_upto_region 1 with fail
  generalize w.alloc (.cells (rowL 3 (fun i => .slice (a i) (l i).length (c i))).toArray 26) = w1 at *
  have HB01 := Lib.hid (fun (W : World) (h : Below w1.heap.size w1 W) => HB0.out.trans (h.mono HB0.out.size))
  have b0 := HI1.out.cell (k := 0) (by omega)
  have b1 := HI1.out.cell (k := 1) (by omega)
  have b2 := HI1.out.cell (k := 2) (by omega)
  go_wp2_with fail
  clear b0 b1 b2 hol
  go_loopw [15] (fun i wr => ∃ k : Nat, k ≤ 3 ∧ i = .int .i64 (k : Int) ∧ Hid (∀ j, j < k → filesN (l j) = 0) ∧ Hid (Below w1.heap.size w1 wr)) (fun i _ => 3 - (intOf i).toNat)
  case atStart => exact ⟨0, by omega, rfl, Lib.hid (fun j hj => by omega), Lib.hid (Below.refl _ _)⟩
  case round =>
    obtain ⟨k, hk, rfl, hZ, hB⟩ := hrel
    by_cases hlt : k < 3
    · have hix := fun W => (show (Instr.index 26 (.agg #[.slice (a 0) (l 0).length (c 0), .slice (a 1) (l 1).length (c 1), .slice (a 2) (l 2).length (c 2)]) (.int .i64 (k : Int))).run Tryd.prog W = .ok (.slice (a k) (l k).length (c k)) W from index_left (fun i => .slice (a i) (l i).length (c i)) hlt W)
      have HCK := Lib.hid (fcheck_any S (.slice (a k) (l k).length (c k)) (l k) wr (fun q hq => Nat.lt_of_lt_of_le (hS q hq) (HB01.out wr hB.out).size) (HRW.out wr (HB01.out wr hB.out) k hlt) (HP.out k hlt) (HE.out.on (HB01.out wr hB.out)))
      obtain ⟨ck, hck⟩ : ∃ x, filesN (l k) = x := ⟨_, rfl⟩
      rw [hck] at HCK
      have HC := Lib.hid hck
      clear hck
      go_wp2_with fail
      refine HCK.out.mono ?_
      rintro e w6 ⟨rfl, hb6⟩
      have HB6 := Lib.hid (hB.out.trans (hb6.mono hB.out.size))
      clear hb6 HCK hix
      by_cases hc0 : ck = 0
      · subst hc0
        have g0 : ((0 : Int) != 0) = false := rfl
        have HZ2 : Hid (∀ j, j < k + 1 → filesN (l j) = 0) := Lib.hid (fun j hj => by
          by_cases e : j = k
          · rw [e]; exact HC.out
          · exact hZ.out j (by omega))
        go_wp2_with fail
        exact ⟨⟨k + 1, by omega, by go_num, HZ2, HB6⟩, by simp [intOf]; omega⟩
      · have g0 : (ck == 0) = false := by rw [beq_eq_false_iff_ne]; exact hc0
        have g1 : (ck != 0) = true := by rw [bne, g0]; rfl
        have HME : Hid (M = (ck, [])) := Lib.hid (by
          rw [← HM.out]
          have h := mergeT_bad (T := T) hlt hZ.out (by rw [HC.out]; exact hc0)
          rw [HC.out] at h; exact h)
        have HC0 := Lib.hid hc0
        go_wp2_with fail
        go_ret2
        exact ⟨HB01.out _ HB6.out, _, _, rfl, by rw [HME.out], fun _ => rfl, fun h => absurd h HC0.out⟩
    · obtain rfl : k = 3 := by omega
      have HMJ : Hid (M = if (joinG T (totN l) l).1 ≠ 0 then ((joinG T (totN l) l).1, []) else (0, upL (joinG T (totN l) l).2 (joinG T (totN l) l).2.length)) := Lib.hid (by rw [← HM.out]; exact mergeT_go hZ.out)
      have HFW := Lib.hid (fun i (hi : i < 3) => files_few (hZ.out i hi))
      obtain ⟨J, hJ⟩ : ∃ J, joinG T (totN l) l = J := ⟨_, rfl⟩
      rw [hJ] at HMJ
      have HL0 : Hid (Left S wr w.heap.size a c l) := Lib.hid ⟨HI1.out.kept (hB.out.block _ HI1.out.lt), fun i hi => HRW.out wr (HB01.out wr hB.out) i hi⟩
      have HJ0 : Hid (J.1 = (joinG T (totN l) l).1 ∧ (J.1 = 0 → J.2 = ([] : List OutM).map bare ++ (joinG T (totN l) l).2)) := Lib.hid (by rw [hJ]; exact ⟨rfl, fun _ => rfl⟩)
      have HB3 := Lib.hid (HB01.out wr hB.out)
      have HSZ : Hid (w.heap.size < wr.heap.size) := Lib.hid HL0.out.blk.lt
      clear hJ hZ HM HB01 hB HI1 HB0 HE
      go_wp2_with fail
      rw [show ((3 : Nat) : Int) = 3 from rfl]
      go_loopw [9] (fun o wr => ∃ (n : Nat) (lc : Nat → List FileN) (a : Nat → Option Addr) (c : Nat → Nat) (acc : List OutM) (css : List (List Value)), Hid (Left S wr w.heap.size a c lc) ∧ Hid (totN lc ≤ n) ∧ Hid (J.1 = (joinG T n lc).1 ∧ (J.1 = 0 → J.2 = acc.map bare ++ (joinG T n lc).2)) ∧ Hid (∀ i, i < 3 → (∀ f ∈ lc i, f ∈ l i) ∧ (lc i).length ≤ 256) ∧ Hid (acc.length + totN lc ≤ 768) ∧ Hid (OwnR outRel 42 n135 (fun q => w.heap.size < q) wr (w.heap.size + 1) o css acc) ∧ Hid (Below w.heap.size w wr)) (fun _ wr => leftM wr w.heap.size)
      case atStart => exact ⟨totN l, l, a, c, [], [], HL0, Lib.hid (Nat.le_refl _), HJ0, Lib.hid (fun i hi => ⟨fun f hf => hf, HFW.out i hi⟩), Lib.hid (by
        have h0 := HFW.out 0 (by omega)
        have h1 := HFW.out 1 (by omega)
        have h2 := HFW.out 2 (by omega)
        unfold totN; rw [List.length_nil]; omega), Lib.hid (OwnR.nil _ _ _ _ _ _), HB3⟩
      case round =>
        clear HL0 HJ0 HB3 HFW HSZ
        obtain ⟨n, lc, a, c, acc, css, hL, hN, hJ, hSub, hAcc, hO, hB⟩ := hrel
        have HME := Lib.hid hL.out.meas
        have hlbr := hL.out.blk.lt
        have hBs := hB.out.size
        have HNX := Lib.hid (next_any S ((curAt lc 3).getD []) w.heap.size a c lc wr (fun q hq => Nat.lt_of_lt_of_le (hS q hq) hBs) (fun hq => Nat.lt_irrefl _ (hS _ hq)) hL.out rfl (fun i hi => by have := (hSub.out i hi).2; omega) (fun i hi f hf => HP.out i hi f ((hSub.out i hi).1 f hf)))
        obtain ⟨cu, hcu⟩ : ∃ x, curAt lc 3 = x := ⟨_, rfl⟩
        rw [hcu] at HNX
        have HCU := Lib.hid hcu
        clear hcu hL
        obtain ⟨oa, oc, rfl⟩ := ownR_shape hO.out
        go_wp2_with fail
        refine HNX.out.mono ?_
        rintro e w2 ⟨rfl, ⟨a', c', hL2⟩, hg2⟩
        have HL2 := Lib.hid hL2
        have HB2 : Hid (Below w.heap.size w w2) := Lib.hid ⟨hg2.os.trans hB.out.os, hg2.tape.trans hB.out.tape, hg2.output.trans hB.out.output, Nat.le_trans hBs hg2.size, fun q hq => (hg2.block q (by omega) (fun e => by injection e with e; omega)).trans (hB.out.block q hq)⟩
        have HO2 := Lib.hid (hO.out.on (w' := w2) out_keeps (fun q hq hh => hg2.block q hq (fun e => by injection e with e; rcases hh with hh | hh <;> omega)) hg2.size)
        have hs2 := hg2.size
        clear hg2 hL2 hO hB HNX
        have hone : OneC n138 (filF (outK lc (cu.getD []) 3) (stK lc (cu.getD []) 3)) := fun j _ => by
          unfold filF
          split
          · exact out_one _ rfl n135 j (by unfold n135; omega)
          · rfl
        have i5 := RF.new w2 74 n138 (filF noOut (fun _ => 0))
        have c5 := i5.write hone
        have HF5 := Lib.hid (i5.put (filF (outK lc (cu.getD []) 3) (stK lc (cu.getD []) 3)))
        have HW5 := Lib.hid (below_setRow ((Below.refl w2.heap.size w2).alloc (Nat.le_refl _) (.cells (rowL n138 (filF noOut (fun _ => 0))).toArray 74)) (Nat.le_refl _) (rowL n138 (filF (outK lc (cu.getD []) 3) (stK lc (cu.getD []) 3))).toArray)
        have hol5 := rowL_len n138 (filF (outK lc (cu.getD []) 3) (stK lc (cu.getD []) 3))
        clear i5 hone
        go_upto_region 10 with fail
        clear c5 hol5
        generalize (w2.alloc (.cells (rowL n138 (filF noOut (fun _ => 0))).toArray 74)).setRow w2.heap.size (rowL n138 (filF (outK lc (cu.getD []) 3) (stK lc (cu.getD []) 3))).toArray = w5 at *
        have HB5 : Hid (Below w.heap.size w w5) := Lib.hid (HB2.out.trans (HW5.out.mono HB2.out.size))
        have HO5 := Lib.hid (HO2.out.on (w' := w5) out_keeps (fun q hq _ => HW5.out.block q hq) HW5.out.size)
        have hlb2 := HL2.out.blk.lt
        have HL5 : Hid (Left S w5 w.heap.size a' c' (restK lc (cu.getD []) 3)) := Lib.hid (HL2.out.kept (fun q hq => HW5.out.block q (by
          rcases hq with rfl | hq
          · exact hlb2
          · have := hS q hq; omega)))
        clear HL2
        cases cu with
        | none =>
          have HJE : Hid (J.1 = 0 ∧ J.2 = acc.map bare) := Lib.hid (by
            have h := hJ.out
            rw [joinG_none HCU.out] at h
            exact ⟨h.1, by rw [h.2 h.1, List.append_nil]⟩)
          have HBK := Lib.hid (block_any _ (w.heap.size + 1) _ acc css w5 HO5.out (by have := hAcc.out; omega) (by have := HW5.out.size; omega) w (by omega) HB5.out)
          clear HF5 HW5 hJ HO5 HL5
          go_wp2_with fail
          refine HBK.out.mono ?_
          rintro e w6 ⟨rfl, ⟨css', ho6⟩, hb6⟩
          have HO6 := Lib.hid ho6
          have HB6 := Lib.hid hb6
          clear ho6 hb6 HBK
          go_wp2_with fail
          go_ret2
          refine ⟨HB6.out, _, _, rfl, by rw [HMJ.out, HJE.out.1, if_neg (by simp)], fun h => absurd rfl h, fun _ => ⟨upL acc acc.length, ?_, ?_⟩⟩
          · rw [HMJ.out, HJE.out.1, if_neg (by simp), HJE.out.2, bare_up, List.length_map]
          · show OutsC _ _ (.slice oa acc.length oc) _
            have h := (HO6.out.rows out_keeps)
            exact h.kept out_keeps (fun q hq => ⟨⟨by rcases hq.1 with h | h <;> omega, hq.2⟩, rfl⟩)
        | some p =>
          have HCU2 := HCU
          have hst5 : ∀ i, i < 3 → stK lc p 3 i < 18446744073709551616 := fun i hi => by
            unfold stK
            split
            · rename_i hh
              have h0 : (lc i).length ≠ 0 := by
                unfold hasK at hh
                rw [Bool.and_eq_true] at hh
                exact (hasN_len hh.2).1
              refine HST.out i hi _ ((hSub.out i hi).1 _ ?_)
              unfold headF
              simp [List.getD, show 0 < (lc i).length by omega]
            · omega
          have HDC := Lib.hid (dec_any S bl bs w2.heap.size (outK lc p 3) (stK lc p 3) w5 (fun q hq => Nat.lt_of_lt_of_le (hS q hq) HB5.out.size) (fun hq => by have := hS _ hq; omega) (HBL.out w5 HB5.out) hl ht HF5.out rfl hst5)
          rw [HT.out] at HDC
          obtain ⟨D, hD⟩ : ∃ D, decR T (outK lc p 3) (stK lc p 3) = D := ⟨_, rfl⟩
          rw [hD] at HDC
          have htr := tot_rest HCU.out
          have HTR := Lib.hid htr
          obtain ⟨m, hm⟩ : ∃ m, n = m + 1 := ⟨n - 1, by have := hN.out; omega⟩
          subst hm
          have HJS : Hid (J.1 = (stepG D (joinG T m (restK lc p 3))).1 ∧ (J.1 = 0 → J.2 = acc.map bare ++ (stepG D (joinG T m (restK lc p 3))).2)) := Lib.hid (by
            have h := hJ.out
            rw [joinG_some HCU.out, hD] at h
            exact h)
          have HN2 : Hid (totN (restK lc p 3) ≤ m) := Lib.hid (by have := hN.out; omega)
          have HSub2 : Hid (∀ i, i < 3 → (∀ f ∈ restK lc p 3 i, f ∈ l i) ∧ (restK lc p 3 i).length ≤ 256) := Lib.hid (fun i hi => by
            rw [restK_three lc p hi]
            refine ⟨fun f hf => (hSub.out i hi).1 f ?_, Nat.le_trans (restN_len lc p i) (hSub.out i hi).2⟩
            unfold restN at hf
            split at hf
            · exact List.mem_of_mem_drop hf
            · exact hf)
          have hf5 : w2.heap.size < w5.heap.size := HF5.out.lt
          clear hD hst5 htr hJ HCU HF5
          change Hid (Left S w5 w.heap.size a' c' (restK lc p 3)) at HL5
          go_wp2_with fail
          refine HDC.out.mono ?_
          rintro e w6 ⟨b, ce, rfl, hd1, hd2, hd3⟩
          have HD1 := Lib.hid hd1
          have HD3 := Lib.hid hd3
          have HB6 : Hid (Below w.heap.size w w6) := Lib.hid ⟨hd2.os.trans HB5.out.os, hd2.tape.trans HB5.out.tape, hd2.output.trans HB5.out.output, Nat.le_trans HB5.out.size hd2.size, fun q hq => (hd2.block q (Nat.lt_of_lt_of_le hq HB5.out.size) (fun e => by injection e with e; omega)).trans (HB5.out.block q hq)⟩
          have HO6 : Hid (OwnR outRel 42 n135 (fun q => w.heap.size < q) w6 (w.heap.size + 1) (.slice oa acc.length oc) css acc) := Lib.hid (HO2.out.on (w' := w6) out_keeps (fun q hq _ => (hd2.block q (by omega) (fun e => by injection e with e; omega)).trans (HW5.out.block q hq)) (by have := hd2.size; omega))
          have HL6 : Hid (Left S w6 w.heap.size a' c' (restK lc p 3)) := Lib.hid (HL5.out.kept (fun q hq => hd2.block q (by
            rcases hq with rfl | hq
            · omega
            · have := hS q hq; omega) (fun e => by
            injection e with e
            rcases hq with rfl | hq
            · omega
            · have := hS q hq; omega)))
          have hs6 := hd2.size
          clear hd1 hd2 hd3 HDC HL5
          by_cases hc : ce = 0
          · subst hc
            obtain ⟨hb1, hb2⟩ := HD3.out rfl
            have HJ2 : Hid (J.1 = (joinG T m (restK lc p 3)).1 ∧ (J.1 = 0 → J.2 = acc.map bare ++ (D.2.toList ++ (joinG T m (restK lc p 3)).2))) := Lib.hid (by
              have h := HJS.out
              rw [stepG_go HD1.out.symm] at h
              exact h)
            clear HJS HD1 HD3 HO5 HW5
            cases b
            · have HJ3 : Hid (J.1 = (joinG T m (restK lc p 3)).1 ∧ (J.1 = 0 → J.2 = acc.map bare ++ (joinG T m (restK lc p 3)).2)) := Lib.hid (by
                have h := HJ2.out
                cases hd : D.2 with
                | none => rw [hd] at h; exact h
                | some x => rw [hd] at hb1; cases hb1)
              have HMM := Lib.hid (show leftM w6 w.heap.size < leftM wr w.heap.size from by rw [HL6.out.meas, HME.out]; exact HTR.out)
              have HA6 : Hid (acc.length + totN (restK lc p 3) ≤ 768) := Lib.hid (by have := hAcc.out; have := HTR.out; omega)
              clear hb1 hb2
              go_wp2_with fail
              go_roundw
              case rel => exact ⟨m, restK lc p 3, a', c', acc, css, HL6, HN2, HJ3, HSub2, HA6, HO6, HB6⟩
              case measure => exact HMM.out
            · obtain ⟨x, hx, hfx, hbx⟩ := hb2 rfl
              have hq := load_row w6 w2.heap.size 0 n135 (outF x.1) (fun j hj => by
                have h := hfx.cell (k := j) (by unfold n135 at hj; unfold n138; omega)
                rw [Nat.zero_add, h]; unfold filF; rw [if_pos (by unfold n135 at hj; exact hj)])
              have HX := Lib.hid hx
              have hx1 := out_one x.1 (tv_one hbx) n135
              have hol := rowL_len n135 (outF x.1)
              have HBX := Lib.hid hbx
              have hszw := HB6.out.size
              have hal : acc.length ≤ 768 := by have := hAcc.out; omega
              clear hfx hx hb1 hb2 hbx
              go_wp2_with (at_builtin; refine wpList_own_src _ rfl _ _ 28 28 rfl (w.heap.size + 1) 42 i0 (.agg (rowL n135 (outF noOut)).toArray) n135 192 Tryd.underlying28 hi hz0 hz1 hz2 out_zs (by decide) _ _ _ rfl (World.ownsRow.alloc HO6.out.own _) _ 1 (rowL n135 (outF x.1)) rfl (srcO_one _ _ hol (rowL_one hx1)) (by unfold maxLen; omega) (by omega) (by simp; omega) ?_)
              intro v9 w9 hown9 hg9
              have O9 : Hid (OwnR outRel 42 n135 (fun q => w.heap.size < q) w9 (w.heap.size + 1) v9 (css ++ [rowL n135 (outF x.1)]) (acc ++ [x])) := Lib.hid (HO6.out.push out_keeps (fun q hq _ => Below.heap_alloc _ _ _ hq) (by simp) hg9 hol (rowL_one hx1) hown9 ⟨rfl, HBX.out.kept (fun q hq => ⟨⟨by omega, by simp; omega, fun e => by
                have h9 := (World.ownsRow.lt HO2.out.own q e).2
                omega⟩, Below.heap_alloc _ _ _ hq.2⟩)⟩)
              have B9 : Hid (Below w.heap.size w w9) := Lib.hid (by
                have h1 : Below w.heap.size w (w6.alloc (.cells (rowL n135 (outF x.1)).toArray 42)) := HB6.out.alloc HB6.out.size _
                exact h1.grown hg9.gb h1.size (fun j hj => Nat.le_trans (Nat.le_succ _) (World.ownsRow.lt HO6.out.own j hj).1))
              have HL9 : Hid (Left S w9 w.heap.size a' c' (restK lc p 3)) := Lib.hid (HL6.out.kept (fun q hq => (hg9.gb.block q (by
                have h0 := HL6.out.blk.lt
                rcases hq with rfl | hq
                · simp; omega
                · have := hS q hq; simp; omega) (fun e => by
                have h9 := (World.ownsRow.lt HO6.out.own q e.symm).1
                rcases hq with rfl | hq
                · omega
                · have := hS q hq; omega)).trans (Below.heap_alloc _ _ _ (by
                have h0 := HL6.out.blk.lt
                rcases hq with rfl | hq
                · omega
                · have := hS q hq; omega))))
              have HMM := Lib.hid (show leftM w9 w.heap.size < leftM wr w.heap.size from by rw [HL9.out.meas, HME.out]; exact HTR.out)
              have HA9 : Hid ((acc ++ [x]).length + totN (restK lc p 3) ≤ 768) := Lib.hid (by have := hAcc.out; have := HTR.out; simp; omega)
              have HJ3 : Hid (J.1 = (joinG T m (restK lc p 3)).1 ∧ (J.1 = 0 → J.2 = (acc ++ [x]).map bare ++ (joinG T m (restK lc p 3)).2)) := Lib.hid ⟨HJ2.out.1, fun h => by
                rw [HJ2.out.2 h, HX.out, List.map_append]; simp⟩
              clear hown9 hg9 hol hq hx1
              go_wp2_with fail
              go_roundw
              case rel => exact ⟨m, restK lc p 3, a', c', acc ++ [x], _, HL9, HN2, HJ3, HSub2, HA9, O9, B9⟩
              case measure => exact HMM.out
          · have g0 : (ce == 0) = false := by rw [beq_eq_false_iff_ne]; exact hc
            have g1 : (ce != 0) = true := by rw [bne, g0]; rfl
            have HJ1 : Hid (M = (ce, [])) := Lib.hid (by
              have h := HJS.out.1
              rw [stepG_bad (by rw [← HD1.out]; exact hc), ← HD1.out] at h
              rw [HMJ.out, h, if_pos hc])
            have HC0 := Lib.hid hc
            go_wp2_with fail
            go_ret2
            exact ⟨HB6.out, _, _, rfl, by rw [HJ1.out], fun _ => rfl, fun h => absurd h HC0.out⟩
end Go.Proofs.YtjlpdoppnhcjoaaDoor
