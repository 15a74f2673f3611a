/- The walk of Sum. -/
import Derived.Test.YteijekhmgedhoaaDoorShaO
import Derived.Test.YteijekhmgedhoaaDoorLists
import Derived.Laws.CopyOwn
namespace Go.Proofs.YteijekhmgedhoaaDoor
open Go.RowKit
attribute [local simp high] st_size st_zero s8_size b64_size b64_zero id_size id_zero

theorem first_load {w : World} (h : Env w) : (loadCellsFrom ⟨0, 0, none⟩ 0 n8 #[]).run Tryd.prog w = .ok (wv startE.list).toArray w := by
  have := run_loadCells_list (P := Tryd.prog) w ⟨0, 0, none⟩ (wv startE.list) (fun j v hv => by
    have hj : j < 8 := (List.getElem?_eq_some_iff.1 hv).1
    have e : (⟨0, 0, none⟩ : Addr).add j = ⟨0, j, none⟩ := by simp [Addr.add]; omega
    rw [e, h.first j hj, ← hv]
    exact (wv_at (l := startE.list) hj).symm)
  have e : (wv startE.list).length = n8 := rfl
  rw [e] at this
  simpa [loadCells] using this
/-- What a sum in the making holds: t was read. -/
structure Read (w : World) (b3 b4 : Nat) (t : List UInt8) (blk : List UInt8) : Prop where
  st : RowAt w b3 66 (wv (blocksN t (t.length / 64)).list)
  row : RowAt w b4 67 (bv blk)
  len : blk.length = 64
  top : blk.take (t.length % 64) = t.drop (64 * (t.length / 64))
theorem Read.kept {w w' : World} {b3 b4 : Nat} {t blk : List UInt8} (h : Read w b3 b4 t blk) (h3 : w'.heap[b3]? = w.heap[b3]?) (h4 : w'.heap[b4]? = w.heap[b4]?) : Read w' b3 b4 t blk := ⟨h.st.kept h3, h.row.kept h4, h.len, h.top⟩
def slenP : Value → Nat
  | .slice _ n _ => n
  | _ => 0
theorem fill_top (t q blk : List UInt8) (n : Nat) (_ : blk.length = 64) (ht : blk.take (t.length % 64) = t.drop (64 * (t.length / 64))) (hn : n ≤ q.length) (_ : t.length % 64 + n ≤ 64) :
    (blk.take (t.length % 64) ++ (q.take n ++ blk.drop (t.length % 64 + n))).take (t.length % 64 + n) = (t ++ q.take n).drop (64 * (t.length / 64)) := by
  have h1 : (q.take n).length = n := by rw [List.length_take]; omega
  have h2 : (t.drop (64 * (t.length / 64))).length = t.length % 64 := by rw [List.length_drop]; omega
  rw [ht, List.drop_append_of_le_length (by omega), ← List.append_assoc, List.take_left' (by rw [List.length_append]; omega)]
theorem b8_size : (Tryd.prog.info? 5).map (·.size) = some 1 := by kernel_rfl
theorem und_bytes : Tryd.prog.underlying 22 = some (.slice (Tryd.prog.elem 22)) := by kernel_rfl
theorem elem_bytes : Tryd.prog.elem 22 = 5 := by kernel_rfl
/-- A slice of bytes cut at its beginning, whether anything is left or not. -/
theorem tail_run {S : Nat → Prop} {w : World} {aa : Addr} {q : List UInt8} {qc n : Nat} (h : BytesC S w (.slice (some aa) q.length qc) q) (hn : n ≤ q.length) :
    ∃ (a' : Option Addr) (c' : Nat), (∀ W, (Instr.sliceAt 22 (.slice (some aa) q.length qc) (some (.int .i64 (n : Int))) none none).run Tryd.prog W = .ok (.slice a' (q.drop n).length c') W) ∧ BytesC S w (.slice a' (q.drop n).length c') (q.drop n) := by
  have hq : (q.drop n).length = q.length - n := List.length_drop
  have hrun : ∀ W, (Instr.sliceAt 22 (.slice (some aa) q.length qc) (some (.int .i64 (n : Int))) none none).run Tryd.prog W = .ok (.slice (if qc = n then some aa else some (aa.add n)) (q.drop n).length (qc - n)) W := by
    intro W
    rw [run_sliceAt_slice W _ _ _ _ _ und_bytes, run_slice_l W _ _ _ _ und_bytes _ _ (by omega) (by omega), elem_bytes, Tryd.sizeOf5]
    simp [sliced, Result.andThen, hq]
  refine ⟨_, _, hrun, ?_⟩
  rcases h with ⟨h1, _⟩ | ⟨a1, c1, h1, h2, h3, h4, h5⟩
  · injection h1 with e; cases e
  · by_cases hc : qc = n
    · have hd : q.drop n = [] := List.drop_eq_nil_of_le (by injection h1 with _ _ e3; omega)
      rw [if_pos hc, hd]
      injection h1 with _ _ e3
      exact Or.inr ⟨aa, _, rfl, Nat.zero_le _, by omega, Or.inl rfl, fun j u hj => by simp [bv] at hj⟩
    · have hlt : n < qc := by injection h1 with _ _ e3; omega
      rw [if_neg hc, hq]
      exact BytesC.drop (Or.inr ⟨a1, c1, h1, h2, h3, h4, h5⟩) n hn hlt
theorem row_kept2 {w w' : World} {b3 b4 : Nat} (h : Below w.heap.size w w') (h3 : b3 < w.heap.size) (h4 : b4 < w.heap.size) : w'.heap[b3]? = w.heap[b3]? ∧ w'.heap[b4]? = w.heap[b4]? := ⟨h.block b3 h3, h.block b4 h4⟩
set_option maxRecDepth 100000 in
set_option maxHeartbeats 8000000 in
theorem sum_any (S : Nat → Prop) (v : Value) (ls : List (List UInt8)) (w : World) (hS : ∀ k, S k → k < w.heap.size) (h : ChunksC S w v ls) (hl : ls.flatten.length ≤ 8388608) (hll : ls.length ≤ 4194304) (hE : Env w) :
    Calls Tryd.prog 13 #[v] w fun e w' => e = .returned (.agg (bv (sumN ls.flatten)).toArray) ∧ Below w.heap.size w w' := by
  have HS := Lib.hid hS
  have H := Lib.hid h
  have HE := Lib.hid hE
  obtain ⟨a, ca, rfl⟩ := h.shape
  have hi2 := IDAt.new w
  have hb1 := (Below.refl w.heap.size w).alloc (Nat.le_refl _) (.cells (bv zeros).toArray 25)
  have HI2 := Lib.hid hi2
  have HB1 := Lib.hid hb1
  have he1 := hE.on hb1
  clear h hS hi2 hb1 hE
  go_enter Tryd.func13, Tryd.ntmps13
  go_upto_region 1 with fail
  have hsz1 : (w.alloc (.cells (bv zeros).toArray 25)).heap.size = w.heap.size + 1 := by simp
  generalize w.alloc (.cells (bv zeros).toArray 25) = w1 at *
  have hf := first_load he1
  have hr3 := RowAt.new w1 66 (wv zeros8)
  have c3 := hr3.write (vs := wv startE.list) rfl (wv_one _)
  have zl : (wv startE.list).length = n8 := rfl
  have HR3 := Lib.hid (hr3.put (wv startE.list))
  have HB3 := Lib.hid (below_setRow (HB1.out.alloc HB1.out.size (.cells (wv zeros8).toArray 66)) HB1.out.size (wv startE.list).toArray)
  have HI3 := Lib.hid ((HI2.out.kept (Below.heap_alloc w1 (.cells (wv zeros8).toArray 66) w.heap.size (by omega))).kept (setRow_other _ w1.heap.size w.heap.size (wv startE.list).toArray (by omega)))
  rw [hsz1] at c3 HR3 HB3 HI3
  clear he1 hr3
  go_upto_region 2 with fail
  clear hf c3 zl
  have hsz2 : ((w1.alloc (.cells (wv zeros8).toArray 66)).setRow (w.heap.size + 1) (wv startE.list).toArray).heap.size = w.heap.size + 2 := by
    simp [World.setRow, hsz1]
  generalize (w1.alloc (.cells (wv zeros8).toArray 66)).setRow (w.heap.size + 1) (wv startE.list).toArray = w2 at *
  have hr4 := RowAt.new w2 67 (bv zerosB)
  have hal := Below.heap_alloc w2 (.cells (bv zerosB).toArray 67)
  have hr3 := HR3.out.kept (hal _ (by omega))
  have hi4 := HI3.out.kept (hal _ (by omega))
  have hb4 := HB3.out.alloc (by omega) (.cells (bv zerosB).toArray 67)
  have hsz3 : (w2.alloc (.cells (bv zerosB).toArray 67)).heap.size = w.heap.size + 3 := by simp [hsz2]
  rw [hsz2] at hr4
  go_upto_region 3 with fail
  generalize w2.alloc (.cells (bv zerosB).toArray 67) = w3 at *
  obtain ⟨b2, hb2⟩ : ∃ b2, b2 = w.heap.size := ⟨_, rfl⟩
  obtain ⟨b3, hb3⟩ : ∃ b3, b3 = w.heap.size + 1 := ⟨_, rfl⟩
  obtain ⟨b4, hb4'⟩ : ∃ b4, b4 = w.heap.size + 2 := ⟨_, rfl⟩
  have hd1 : w.heap.size ≤ b2 := by omega
  have hd2 : b2 < b3 := by omega
  have hd3 : b3 < b4 := by omega
  rw [← hb4'] at hr4 ⊢
  rw [← hb3] at hr3 ⊢
  rw [← hb2] at hi4
  rw [show (Value.pointer (some { block := w.heap.size, off := 0 }) : Value) = .pointer (some ⟨b2, 0, none⟩) by rw [hb2]]
  have RD : Hid (Read w3 b3 b4 [] zerosB) := Lib.hid ⟨hr3, hr4, rfl, rfl⟩
  have RI := Lib.hid hi4
  have RB := Lib.hid hb4
  clear hr3 hr4 hi4 hb4 hb2 hb3 hb4' hal HR3 HI3 HB3 HI2 HB1
  go_wp2_with fail
  go_loopw [5, 6, 13] (fun fi sz i wr => ∃ (k : Nat) (blk : List UInt8), k ≤ ls.length ∧ i = .int .i64 k ∧ fi = .int .i64 (((ls.take k).flatten.length % 64 : Nat) : Int) ∧ sz = .int .u64 ((ls.take k).flatten.length : Int) ∧ Read wr b3 b4 (ls.take k).flatten blk ∧ IDAt wr b2 zeros ∧ Below w.heap.size w wr) (fun _ _ i _ => ls.length - (intOf i).toNat)
  case atStart => exact ⟨0, zerosB, by omega, rfl, rfl, rfl, RD.out, RI.out, RB.out⟩
  case round =>
    obtain ⟨k, blk, hk, rfl, rfl, rfl, hrd, hri, hrb⟩ := hrel
    have HRD := Lib.hid hrd
    have HRI := Lib.hid hri
    have HBE := Lib.hid hrb
    have hsz := hrb.size
    clear hrd hri hrb
    by_cases hlt : k < ls.length
    · rcases H.out with ⟨_, h0⟩ | ⟨aa, ca', h1, _, _, hbk, hca⟩
      · rw [h0] at hlt; simp at hlt
      injection h1 with e1 _ e1c
      subst e1 e1c
      have hblk : aa.block < w.heap.size := by
        rcases hbk with h0 | hbk
        · rw [h0] at hlt; simp at hlt
        · exact HS.out _ hbk
      obtain ⟨vj, e1, e2⟩ := hca k _ (List.getElem?_eq_getElem hlt)
      have d1 := (HBE.out.cell (p := aa.add k) (by rw [add_block]; exact hblk)).trans e1
      have HX := Lib.hid (e2.kept (S' := S) (w' := wr) (fun j hj => ⟨hj, HBE.out.block j (HS.out j hj)⟩))
      have HFT := Lib.hid (flat_take hlt)
      have hf1 := flat_le ls (k + 1)
      rw [flat_take hlt, List.length_append] at hf1
      generalize hfl : (ls.take k).flatten = fl at *
      generalize hpk : ls[k] = pk at *
      have HF1 := Lib.hid hf1
      clear hfl hpk
      obtain ⟨ja, jc, rfl⟩ := e2.shape
      clear e1 e2 hca hbk hf1
      have hu1 : IntKind.u64.wrap (pk.length : Int) = (pk.length : Int) := by have := HF1.out; rw [IntWalk.u64_in _ (by omega)]
      have hu2 : IntKind.u64.wrap ((fl.length : Int) + (pk.length : Int)) = ((fl.length + pk.length : Nat) : Int) := by have := HF1.out; rw [IntWalk.u64_in _ (by omega)]; omega
      go_wp2_with fail
      have hlt' := hlt
      go_loopw [5, 8] (fun fi vp wr => ∃ (p q blk' : List UInt8), pk = p ++ q ∧ BytesC S wr vp q ∧ fi = .int .i64 (((fl ++ p).length % 64 : Nat) : Int) ∧ Read wr b3 b4 (fl ++ p) blk' ∧ IDAt wr b2 zeros ∧ Below w.heap.size w wr) (fun _ vp _ => slenP vp)
      case atStart => exact ⟨[], pk, blk, rfl, HX.out, by simp, by simpa using HRD.out, HRI.out, HBE.out⟩
      case round =>
        obtain ⟨p, q, blk', hpq, hbq, rfl, hrd5, hri5, hrb5⟩ := hrel
        have R5 := Lib.hid hrd5
        have I5 := Lib.hid hri5
        have B5 := Lib.hid hrb5
        have Q5 := Lib.hid hbq
        have hsz5 := hrb5.size
        obtain ⟨qa, qc, rfl⟩ := hbq.shape
        clear hrd5 hri5 hrb5 hbq
        have HPL : Hid (pk.length = p.length + q.length) := Lib.hid (by rw [hpq, List.length_append])
        have HPQ := Lib.hid hpq
        clear hpq
        by_cases hq0 : 0 < q.length
        · obtain ⟨qaa, hqa⟩ : ∃ qaa, qa = some qaa := by
            rcases Q5.out with ⟨_, h0⟩ | ⟨qa', qc', h1, _⟩
            · rw [h0] at hq0; simp at hq0
            · injection h1 with e1 _ _; exact ⟨qa', e1⟩
          subst hqa
          obtain ⟨f, hf⟩ : ∃ f, f = (fl ++ p).length % 64 := ⟨_, rfl⟩
          have hf64 : f < 64 := by omega
          rw [← hf]
          have hsl := fun W => slice64 W b4 f hf64
          have HF := Lib.hid hf
          clear hf
          obtain ⟨n, hn⟩ : ∃ n, n = min q.length (64 - f) := ⟨_, rfl⟩
          have hn1 : 0 < n := by omega
          have hn2 : n ≤ q.length := by omega
          have hn3 : f + n ≤ 64 := by omega
          have hnm : (bv (q.take n)).length = Nat.min q.length (64 - f) := by unfold bv; rw [List.length_map, List.length_take]; show min n q.length = min q.length (64 - f); omega
          have HNM := Lib.hid hnm
          have HN := Lib.hid hn
          clear hnm hn
          go_wp2_with (with_reducible refine wpList_copy_splice (o := ⟨some 28, _, _, _, _, _⟩) rfl (.tmp 26) (.tmp 27) 22 22 rfl 5 Tryd.underlying22 b8_size (some ⟨b4, f, none⟩) (some qaa) (64 - f) (64 - f) q.length qc rfl rfl b4 f (bv blk') 67 R5.out.row.blk (bv (q.take n)) HNM.out ?c1 ?c2 ?c3 b4 wr (Below.refl _ _) (Nat.le_refl _) ?_)
          case c1 =>
            intro _
            rcases Q5.out with ⟨_, h0⟩ | ⟨qa', qc', h1, _, _, _, hca⟩
            · rw [h0] at hq0; simp at hq0
            injection h1 with e1 _ _
            cases e1
            exact fun j v hj => hca j v (by rw [bv_take, List.getElem?_take] at hj; split at hj; exact hj; simp at hj)
          case c2 => have := R5.out.len; rw [bv_len, bv_len, List.length_take]; omega
          case c3 => exact bv_one _
          intro w6 hg6 hb6
          have e6 : splice (bv blk') f (bv (q.take n)) = bv (blk'.take f ++ (q.take n ++ blk'.drop (f + n))) := by
            have e : (bv (q.take n)).length = n := by rw [bv_len, List.length_take]; omega
            unfold splice
            rw [e]
            simp only [bv_append, bv_take, bv_drop]
          have R6 : Hid (RowAt w6 b4 67 (bv (blk'.take f ++ (q.take n ++ blk'.drop (f + n))))) := Lib.hid ⟨by rw [← e6]; exact hg6.out⟩
          have S6 := Lib.hid (R5.out.st.kept (hb6.block b3 hd3))
          have I6 := Lib.hid (I5.out.kept (hb6.block b2 (by omega)))
          have B6 := Lib.hid (B5.out.trans (hb6.mono (by omega)))
          have Q6 := Lib.hid (Q5.out.kept (S' := S) (w' := w6) (fun j hj => ⟨hj, hb6.block j (Nat.lt_trans (HS.out j hj) (by omega))⟩))
          have T6 := Lib.hid (fill_top (fl ++ p) q blk' n R5.out.len R5.out.top hn2 (by rw [← HF.out]; exact hn3))
          have L6 : Hid ((bv (q.take n)).length = n) := Lib.hid (by rw [bv_len, List.length_take]; omega)
          clear hg6 hb6 e6
          rw [L6.out]
          have K6 : Hid ((blk'.take f ++ (q.take n ++ blk'.drop (f + n))).length = 64) := Lib.hid (by have := R5.out.len; rw [List.length_append, List.length_append, List.length_take, List.length_take, List.length_drop]; omega)
          rw [← HF.out] at T6
          generalize blk'.take f ++ (q.take n ++ blk'.drop (f + n)) = blk6 at *
          clear R5 I5 B5 Q5 HX
          have hw1 : IntKind.i64.wrap ((f : Int) + (n : Int)) = ((f + n : Nat) : Int) := by rw [IntWalk.i64_in _ (by omega)]; omega
          obtain ⟨ta, tc, hts, htb⟩ := tail_run Q6.out hn2
          have HTB := Lib.hid htb
          clear htb
          have hml : (q.drop n).length < q.length := by rw [List.length_drop]; omega
          have PQ : Hid (pk = (p ++ q.take n) ++ q.drop n) := Lib.hid (by rw [HPQ.out, List.append_assoc, List.take_append_drop])
          have HML := Lib.hid hml
          clear hml
          generalize q.drop n = qd at *
          by_cases h64 : f + n = 64
          · have hle : ((f : Int) + (n : Int)) = 64 := by omega
            have hl0 := HF.out
            have hlq : (q.take n).length = n := by rw [List.length_take]; omega
            have hlen : (fl ++ (p ++ q.take n)).length = (fl ++ p).length + n := by rw [← List.append_assoc, List.length_append, hlq]
            have RM : Hid ((fl ++ (p ++ q.take n)).length % 64 = 0) := Lib.hid (by rw [hlen]; omega)
            have RQ : Hid ((fl ++ (p ++ q.take n)).length / 64 = (fl ++ p).length / 64 + 1) := Lib.hid (by rw [hlen]; omega)
            have RT : Hid (blk6 = (fl ++ (p ++ q.take n)).drop (64 * ((fl ++ p).length / 64))) := Lib.hid (by
              have := T6.out
              rw [h64, List.take_of_length_le (Nat.le_of_eq K6.out)] at this
              rw [this, List.append_assoc])
            obtain ⟨v1, hv1⟩ : ∃ v1, v1 = blockN blk6 0 (blocksN (fl ++ p) ((fl ++ p).length / 64)) := ⟨_, rfl⟩
            have RV : Hid (blocksN (fl ++ (p ++ q.take n)) ((fl ++ (p ++ q.take n)).length / 64) = v1) := Lib.hid (by
              rw [hv1, RQ.out, blocksN_succ, ← RT.out, List.take_of_length_le (Nat.le_of_eq K6.out), ← List.append_assoc, blocksN_app _ _ _ (by omega)])
            have RE : Hid ((fl ++ (p ++ q.take n)).drop (64 * ((fl ++ (p ++ q.take n)).length / 64)) = []) := Lib.hid (List.drop_eq_nil_of_le (by have := RM.out; omega))
            have YL := Lib.hid (blocksN_lt (fl ++ p) ((fl ++ p).length / 64))
            obtain ⟨y, hy⟩ : ∃ y, y = blocksN (fl ++ p) ((fl ++ p).length / 64) := ⟨_, rfl⟩
            rw [← hy] at YL hv1 S6
            have HTK : Hid (∀ w, Env w → Calls Tryd.prog 38 #[.agg (wv y.list).toArray, .agg (bv blk6).toArray] w fun e w' => e = .returned (.agg (wv v1.list).toArray) ∧ Below w.heap.size w w') := Lib.hid (fun w hE => by rw [hv1]; exact taken_any y blk6 w YL.out K6.out hE)
            clear hl0 hlq hlen hv1 hy
            have c1 := S6.out.cells (n := n8) rfl
            have c2 := R6.out.cells (n := n64) (by rw [bv_len, K6.out]; rfl)
            go_wp2_with fail
            refine (HTK.out _ (HE.out.on B6.out)).mono ?_
            rintro e w7 ⟨rfl, hb7⟩
            have hm1 := S6.out.kept (w' := w7) (hb7.block b3 S6.out.lt)
            have hm2 := R6.out.kept (w' := w7) (hb7.block b4 R6.out.lt)
            have hm3 := I6.out.kept (hb7.block b2 (Nat.lt_trans hd2 S6.out.lt))
            have hmb := B6.out.trans (hb7.mono B6.out.size)
            have hmq := HTB.out.kept (S' := S) (w' := w7) (fun j hj => ⟨hj, hb7.block j (Nat.lt_of_lt_of_le (HS.out j hj) B6.out.size)⟩)
            have c3 := hm1.write (vs := wv v1.list) rfl (wv_one _)
            have zl : (wv v1.list).length = n8 := rfl
            have N1 := Lib.hid (hm1.put (wv v1.list))
            have N2 := Lib.hid (hm2.kept (setRow_other w7 b3 b4 (wv v1.list).toArray (by omega)))
            have N3 := Lib.hid (hm3.kept (setRow_other w7 b3 b2 (wv v1.list).toArray (by omega)))
            have NB := Lib.hid (below_setRow hmb (show w.heap.size ≤ b3 by omega) (wv v1.list).toArray)
            have NQ := Lib.hid (hmq.kept (S' := S) (w' := w7.setRow b3 (wv v1.list).toArray) (fun j hj => ⟨hj, setRow_other w7 b3 j (wv v1.list).toArray (by have := HS.out j hj; omega)⟩))
            clear hb7 hm1 hm2 hm3 hmb hmq c1 c2
            go_wp2_with fail
            go_roundw
            case rel =>
              refine ⟨p ++ q.take n, qd, blk6, PQ.out, NQ.out, by rw [RM.out]; rfl, ⟨?_, N2.out, K6.out, ?_⟩, N3.out, NB.out⟩
              · rw [RV.out]; exact N1.out
              · rw [RM.out, RE.out]; rfl
            case measure => exact HML.out
          · have hne : ((f : Int) + (n : Int)) ≠ 64 := by omega
            have RN : Hid (Read w6 b3 b4 (fl ++ (p ++ q.take n)) blk6 ∧ (fl ++ (p ++ q.take n)).length % 64 = f + n) := by
              have hl0 := HF.out
              have hlq : (q.take n).length = n := by rw [List.length_take]; omega
              have hlen : (fl ++ (p ++ q.take n)).length = (fl ++ p).length + n := by rw [← List.append_assoc, List.length_append, hlq]
              have hm : (fl ++ (p ++ q.take n)).length % 64 = f + n := by rw [hlen]; omega
              have hd : (fl ++ (p ++ q.take n)).length / 64 = (fl ++ p).length / 64 := by rw [hlen]; omega
              refine Lib.hid ⟨⟨?_, R6.out, K6.out, ?_⟩, hm⟩
              · rw [hd, ← List.append_assoc, blocksN_app _ _ _ (by omega)]; exact S6.out
              · rw [hm, hd, ← List.append_assoc]
                have := T6.out
                exact this
            go_wp2_with fail
            go_roundw
            case rel => exact ⟨p ++ q.take n, qd, blk6, PQ.out, HTB.out, by rw [RN.out.2]; rfl, RN.out.1, I6.out, B6.out⟩
            case measure => exact HML.out
        · have hqn : q = [] := List.length_eq_zero_iff.1 (by omega)
          have hpp : pk = p := by rw [HPQ.out, hqn, List.append_nil]
          have hf2 : (ls.take (k + 1)).flatten = fl ++ p := by rw [HFT.out, hpp]
          have F2 := Lib.hid hf2
          have L2 : Hid ((fl.length : Int) + (pk.length : Int) = (((fl ++ p).length : Nat) : Int)) := Lib.hid (by rw [hpp, List.length_append]; omega)
          clear hqn hpp hf2
          go_wp2_with fail
          go_roundw
          case rel => exact ⟨k + 1, blk', by omega, by go_num, by rw [F2.out], by rw [F2.out, L2.out], by rw [F2.out]; exact R5.out, I5.out, B5.out⟩
          case measure => simp [intOf]; omega
    · have hkl : k = ls.length := by omega
      have htk : (ls.take k).flatten = ls.flatten := by rw [hkl, List.take_length]
      have hd : decide ((k : Int) < (ls.length : Int)) = false := by rw [hkl]; simp
      rw [htk] at HRD ⊢
      clear hkl htk
      have HLT := Lib.hid hlt
      clear hlt
      obtain ⟨t, ht⟩ : ∃ t, t = ls.flatten := ⟨_, rfl⟩
      have HTT := Lib.hid ht
      rw [← ht] at HRD hl ⊢
      clear ht
      obtain ⟨y, hy⟩ : ∃ y, y = blocksN t (t.length / 64) := ⟨_, rfl⟩
      obtain ⟨z, hz⟩ : ∃ z, z = closedN y blk (t.length % 64) t.length := ⟨_, rfl⟩
      obtain ⟨o, ho⟩ : ∃ o, o = (List.range 32).map (outB z.list) := ⟨_, rfl⟩
      have HO : Hid (sumN t = o) := Lib.hid (by rw [ho, hz, hy, closed_pad t blk HRD.out.len HRD.out.top]; rfl)
      have HOL : Hid (o.length = 32) := Lib.hid (by rw [← HO.out]; exact sumN_len t)
      have HCL : Hid (∀ w, Env w → Calls Tryd.prog 39 #[.agg (wv y.list).toArray, .agg (bv blk).toArray, .int .i64 ((t.length % 64 : Nat) : Int), .int .u64 (t.length : Int)] w fun e w' => e = .returned (.agg (wv z.list).toArray) ∧ Below w.heap.size w w') := Lib.hid (fun w hE => by
        have h1 := closed_any y blk (t.length % 64) t.length w (by rw [hy]; exact blocksN_lt _ _) HRD.out.len (Nat.mod_lt _ (by omega)) (by omega) hE
        rw [← hz] at h1
        exact h1)
      have HIA : Hid (∀ w, Calls Tryd.prog 40 #[.agg (wv z.list).toArray] w fun e w' => e = .returned (.agg (bv o).toArray) ∧ Below w.heap.size w w') := Lib.hid (fun w => by
        have h1 := id_any z w (by rw [hz]; exact closedN_lt _ _ _ _)
        rw [← ho] at h1
        exact h1)
      have S6 := HRD.out.st
      have R6 := HRD.out.row
      rw [← hy] at S6
      have c1 := S6.cells (n := n8) rfl
      have c2 := R6.cells (n := n64) (by rw [bv_len, HRD.out.len]; rfl)
      have LT3 := S6.lt
      clear hy hz ho S6 R6 hl
      generalize t.length % 64 = tm at *
      go_wp2_with fail
      refine (HCL.out _ (HE.out.on HBE.out)).mono ?_
      rintro e w7 ⟨rfl, hb7⟩
      have I7 := Lib.hid (HRI.out.kept (w' := w7) (hb7.block b2 (by omega)))
      have B7 := Lib.hid (HBE.out.trans (hb7.mono HBE.out.size))
      have LT7 := hb7.size
      clear hb7 c1 c2
      go_wp2_with fail
      refine (HIA.out _).mono ?_
      rintro e w8 ⟨rfl, hb8⟩
      have I8 := I7.out.kept (w' := w8) (hb8.block b2 (by omega))
      have B8 := B7.out.trans (hb8.mono B7.out.size)
      have c3 := I8.write (l := o) HOL.out
      have zl : (bv o).length = n32 := by rw [bv_len, HOL.out]; rfl
      have HP := Lib.hid (I8.put (l := o) HOL.out)
      have HBF := Lib.hid (below_setRow B8 (show w.heap.size ≤ b2 by omega) (bv o).toArray)
      clear hb8 I8 B8
      go_wp2_with fail
      exact bodyPost_ret (v := .agg (bv o).toArray) (results_row rfl _ _ rfl Tryd.under25' (by rw [zl]; exact Tryd.size25) ⟨HP.out.blk⟩) rfl ⟨by rw [← HTT.out, HO.out], HBF.out⟩
end Go.Proofs.YteijekhmgedhoaaDoor
