/- A text of both sides: mix. -/
import Derived.Test.YtjlpdoppnhcjoaaDoorJnO
namespace Go.Proofs.YtjlpdoppnhcjoaaDoor
open Go.RowKit Go.Lib
theorem method_text (n : Nat) (x : Value) (w : World) : (method (n + 1) 33 x "Text").run Tryd.prog w = .ok (115, x) w := by kernel_rfl
theorem ids_size (w : World) : (sizeOf 40).run Tryd.prog w = .ok n96 w := by rw [Tryd.sizeOf40]; rfl
theorem id_zero (w : World) : (zeroValue 36).run Tryd.prog w = .ok (.agg (rowL n32 (idF (fun _ => 0))).toArray) w := by rw [Tryd.zeroValue36]; kernel_rfl
attribute [local simp high] id_zero files_size outcome_size id_size ids_size n135_ne n138_ne n32_ne n34_ne outcome_zero file_size
theorem und_ids : Tryd.prog.underlying 40 = some (.array 3 36) := by kernel_rfl
/-- One of the three ids. -/
theorem index_id (f : Nat → Nat → UInt8) {k : Nat} (hk : k < 3) (W : World) : (Instr.index 40 (.agg (rowL n96 (fun j => .int .u8 ((f (j / 32) (j % 32)).toNat : Int))).toArray) (.int .i64 (k : Int))).run Tryd.prog W = .ok (.agg (bv (idL (f k))).toArray) W := by
  have hk2 : 0 ≤ (k : Int) ∧ (k : Int) < 3 := by omega
  simp [Instr.index, run_underlying und_ids, asIntOf, hk2, go_sem]
  rw [if_pos hk]
  have e : ((rowL n96 (fun j => Value.int .u8 ((f (j / 32) (j % 32)).toNat : Int))).drop (k * n32)).take n32 = rowL n32 (idF (f k)) := by
    have e1 : n96 = 96 := rfl
    have e2 : n32 = 32 := rfl
    refine rowL_ext (by rw [List.length_take, List.length_drop, rowL_len, e1, e2]; omega) (fun j hj => ?_)
    rw [List.getElem?_take, if_pos hj, List.getElem?_drop, rowL_at _ (by rw [e1, e2]; omega)]
    unfold idF
    rw [show (k * n32 + j) / 32 = k by rw [e2]; omega, show (k * n32 + j) % 32 = j by rw [e2]; omega]
  rw [e, idL_row]
def MixQ (T : SrcN) (fb : Nat) (o : OutN) (st : Nat → Nat) (w : World) (c : Int) (w' : World) : Option Int → Prop
  | some c0 => c = c0 ∧ FAt w' fb o st
  | none => c = 0 ∧ ∃ v, FAt w' fb { o with tv := v, kind := mixK T o o.kind } st ∧ BytesC (fun k => w.heap.size ≤ k ∧ k < w'.heap.size) w' v (mixL T o)
def MixP (T : SrcN) (fb : Nat) (o : OutN) (st : Nat → Nat) (w : World) (c : Int) (w' : World) : Prop := w.grownBy w' (some fb) ∧ MixQ T fb o st w c w' (stopN T o 3 0)
/-- The lines so far. -/
structure LinesK (T : SrcN) (o : OutN) (tb : Nat) (k : Nat) (w : World) (v : Nat → Value) : Prop where
  box : RF w tb 105 3 v
  done : ∀ i, i < k → StrsC (fun q => tb < q ∧ q < w.heap.size) w (v i) (lineN T o i)
  rest : ∀ i, k ≤ i → v i = .slice none 0 0
theorem LinesK.kept {T : SrcN} {o : OutN} {tb k : Nat} {w w' : World} {v : Nat → Value} (h : LinesK T o tb k w v) (hb : Below w.heap.size w w') : LinesK T o tb k w' v :=
  ⟨h.box.kept (hb.block tb h.box.lt), fun i hi => (h.done i hi).kept (fun q hq => ⟨⟨hq.1, Nat.lt_of_lt_of_le hq.2 hb.size⟩, hb.block q hq.2⟩), h.rest⟩
theorem LinesK.skip {T : SrcN} {o : OutN} {tb k : Nat} {w : World} {v : Nat → Value} (h : LinesK T o tb k w v) (hn : o.has k = false) : LinesK T o tb (k + 1) w v :=
  ⟨h.box, fun i hi => by
    by_cases e : i = k
    · subst e
      rw [h.rest i (Nat.le_refl _)]
      unfold lineN
      rw [hn, if_neg (by decide)]
      exact CellsC.nil _ _ _ _ _
    · exact h.done i (by omega), fun i hi => h.rest i (by omega)⟩
theorem LinesK.put {T : SrcN} {o : OutN} {tb k : Nat} {w : World} {v : Nat → Value} (h : LinesK T o tb k w v) (hk : k < 3) {x : Value} (hx : StrsC (fun q => tb < q ∧ q < w.heap.size) w x (lineN T o k)) : LinesK T o tb (k + 1) (w.setCell ⟨tb, k, none⟩ x) (fun j => if j = k then x else v j) := by
  have key : ∀ q, (tb < q ∧ q < w.heap.size) → (tb < q ∧ q < (w.setCell ⟨tb, k, none⟩ x).heap.size) ∧ (w.setCell ⟨tb, k, none⟩ x).heap[q]? = w.heap[q]? := fun q hq => ⟨⟨hq.1, by simpa [World.setCell] using hq.2⟩, Below.heap_setCell _ _ _ _ (fun e => by have e2 : q = tb := e; omega)⟩
  refine ⟨h.box.set hk x, fun i hi => ?_, fun i hi => ?_⟩
  · by_cases e : i = k
    · subst e; simp only [if_pos]; exact hx.kept key
    · simp only [if_neg e]; exact (h.done i (by omega)).kept key
  · show (if i = k then x else v i) = _
    rw [if_neg (by omega)]; exact h.rest i (by omega)
theorem textOf_bound (f : Nat → UInt8) {n : Nat} : ∀ (l : List BlobN), (∀ b ∈ l, b.text.length ≤ n) → (textOf f l).1.length ≤ n
  | [], _ => by show ([] : List UInt8).length ≤ _; simp
  | b :: l, h => by
    unfold textOf
    split
    · split
      · show ([] : List UInt8).length ≤ _; simp
      · exact h b List.mem_cons_self
    · exact textOf_bound f l (fun x hx => h x (List.mem_cons_of_mem _ hx))
def WTextP (w : World) (M : List (PartN (List UInt8))) (so st : List UInt8) (e : Ending) (w' : World) : Prop := ∃ v, e = .returned (.tuple #[v, .bool (calmN M)]) ∧ OwnS w' w.heap.size v (textN (headN so) (footN st) M) ∧ Below w.heap.size w w'
theorem small_sq {a b : Nat} (ha : a ≤ 600) (hb : b ≤ 600) : a * b ≤ 1048576 := Nat.le_trans (Nat.mul_le_mul ha hb) (by decide)
theorem stop_next {T : SrcN} {o : OutN} {k : Nat} (hk : k < 3) (h : stopAt T o k = none) : stopN T o (3 - k) k = stopN T o (3 - (k + 1)) (k + 1) := by
  rw [show 3 - k = (3 - (k + 1)) + 1 by omega, stopN, h]
theorem stop_here {T : SrcN} {o : OutN} {k : Nat} {c : Int} (hk : k < 3) (h : stopAt T o k = some c) : stopN T o (3 - k) k = some c := by
  rw [show 3 - k = (3 - (k + 1)) + 1 by omega, stopN, h]
theorem stopAt_no {T : SrcN} {o : OutN} {k : Nat} (h : o.has k = false) : stopAt T o k = none := by unfold stopAt; rw [h, if_neg (by decide)]
theorem stopAt_bad {T : SrcN} {o : OutN} {k : Nat} (h : o.has k = true) (hc : (T (o.ids k)).2 ≠ 0) : stopAt T o k = some (T (o.ids k)).2 := by unfold stopAt; rw [h, if_pos rfl, if_pos hc]
theorem stopAt_text {T : SrcN} {o : OutN} {k : Nat} (h : o.has k = true) (hc : (T (o.ids k)).2 = 0) : stopAt T o k = if isTextB (T (o.ids k)).1 = true then none else some 0 := by unfold stopAt; rw [h, if_pos rfl, if_neg (by rw [hc]; simp)]
theorem lineN_yes {T : SrcN} {o : OutN} {k : Nat} (h : o.has k = true) : lineN T o k = linesL (T (o.ids k)).1 := by unfold lineN; rw [h, if_pos rfl]
set_option maxRecDepth 100000 in
set_option maxHeartbeats 8000000 in
theorem mix_any (S : Nat → Prop) (bl : Value) (l : List BlobN) (fb : Nat) (o : OutN) (st : Nat → Nat) (w : World) (hS : ∀ k, S k → k < w.heap.size) (hb : BlobsC S w bl l) (hl : l.length ≤ 4194304) (ht : ∀ b ∈ l, b.text.length ≤ 600) (h : FAt w fb o st) :
    Calls Tryd.prog 42 #[.pointer (some ⟨fb, 0, none⟩), .iface 33 (.agg #[bl])] w fun e w' => ∃ c, e = .returned (.int .i64 c) ∧ MixP (fun f => textOf f l) fb o st w c w' := by
  obtain ⟨T, hT⟩ : ∃ T : SrcN, (fun f => textOf f l) = T := ⟨_, rfl⟩
  obtain ⟨R, hR⟩ : ∃ R, stopN T o 3 0 = R := ⟨_, rfl⟩
  unfold MixP
  rw [hT, hR]
  have HT := Lib.hid hT
  have HR : Hid (stopN T o (3 - 0) 0 = R) := Lib.hid hR
  have hfl := h.lt
  have HFW := Lib.hid (fun (W : World) (hW : Below w.heap.size w W) => (show FAt W fb o st from h.kept (hW.block fb hfl)))
  have i1 := RF.new w 105 3 (fun _ => .slice none 0 0)
  have HB0 := Lib.hid ((Below.refl w.heap.size w).alloc (Nat.le_refl _) (.cells (rowL 3 (fun _ => .slice none 0 0)).toArray 105))
  have HL0 : Hid (LinesK T o w.heap.size 0 (w.alloc (.cells (rowL 3 (fun _ => .slice none 0 0)).toArray 105)) (fun _ => .slice none 0 0)) := Lib.hid ⟨i1, fun i hi => by omega, fun _ _ => rfl⟩
  have q1 := load_row (w.alloc (.cells (rowL 3 (fun _ => .slice none 0 0)).toArray 105)) fb 39 n96 (fun j => .int .u8 ((o.ids (j / 32) (j % 32)).toNat : Int)) (fun j hj => by
    have e : n96 = 96 := rfl
    rw [(HFW.out _ HB0.out).cell (k := 39 + j) (by unfold n138; omega)]
    unfold filF outF
    rw [if_pos (by omega), if_neg (by omega), if_neg (by omega), if_neg (by omega), if_neg (by omega), if_neg (by omega), if_neg (by omega), show 39 + j - 39 = j by omega])
  have hol := rowL_len n96 (fun j => .int .u8 ((o.ids (j / 32) (j % 32)).toNat : Int))
  have HBL := Lib.hid (fun (W : World) (hW : Below w.heap.size w W) => (show BlobsC S W bl l from hb.kept blob_keeps (fun k hk => ⟨hk, hW.block k (hS k hk)⟩)))
  have hTB : ∀ f, (T f).1.length ≤ 600 := fun f => by rw [← hT]; exact textOf_bound f l ht
  clear hT hR i1 h
  go_enter Tryd.func42, Tryd.ntmps42
  go_upto_region 2 with fail
  change Code.wp _ _ _ _ (w.alloc (.cells (rowL 3 (fun _ => .slice none 0 0)).toArray 105))
  generalize w.alloc (.cells (rowL 3 (fun _ => .slice none 0 0)).toArray 105) = w1 at *
  go_wp2_with fail
  have HOL := Lib.hid hol
  clear hol q1
  go_loopw [19] (fun i wr => ∃ (k : Nat) (v : Nat → Value), k ≤ 3 ∧ i = .int .i64 (k : Int) ∧ Hid (stopN T o (3 - k) k = R) ∧ Hid (LinesK T o w.heap.size k wr v) ∧ Hid (Below w.heap.size w wr)) (fun i _ => 3 - (intOf i).toNat)
  case atStart => exact ⟨0, _, by omega, rfl, HR, HL0, HB0⟩
  case round =>
    clear HR HL0 HB0
    obtain ⟨k, v, hk, rfl, hR, hL, hB⟩ := hrel
    by_cases hlt : k < 3
    · have hF := HFW.out wr hB.out
      have d0 := hF.has hlt
      clear hF
      obtain ⟨hs, hhs⟩ : ∃ b, o.has k = b := ⟨_, rfl⟩
      rw [hhs] at d0
      have HHS := Lib.hid hhs
      clear hhs
      have hix := fun W => index_id o.ids hlt W
      have z1 := RF.new wr 36 n32 (idF (fun _ => 0))
      have z2 := z1.write (id_one (o.ids k) n32)
      rw [idL_row (o.ids k)] at z2
      have HZ := Lib.hid (z1.put (idF (o.ids k)))
      rw [idL_row (o.ids k)] at HZ
      have hol : (bv (idL (o.ids k))).length = n32 := by rw [bv_len, idL_len]; rfl
      have HW := Lib.hid (below_setRow ((Below.refl wr.heap.size wr).alloc (Nat.le_refl _) (.cells (rowL n32 (idF (fun _ => 0))).toArray 36)) (Nat.le_refl _) (bv (idL (o.ids k))).toArray)
      clear z1
      go_upto_region 4 with fail
      go_upto_region 5 with fail
      clear z2 hol hix
      generalize (wr.alloc (.cells (rowL n32 (idF (fun _ => 0))).toArray 36)).setRow wr.heap.size (bv (idL (o.ids k))).toArray = w5 at *
      have HB5 : Hid (Below w.heap.size w w5) := Lib.hid (hB.out.trans (HW.out.mono hB.out.size))
      have HL5 := Lib.hid (hL.out.kept HW.out)
      have d5 : w5.cell? ⟨fb, 36 + k, none⟩ = some (.bool hs) := (World.cell?_of_block (w := w) (HB5.out.block fb hfl)).trans ((World.cell?_of_block (w := w) (hB.out.block fb hfl)).symm.trans d0)
      have q5 := load_row w5 wr.heap.size 0 n32 (idF (o.ids k)) (fun j hj => by rw [Nat.zero_add]; exact HZ.out.cell hj)
      rw [idL_row] at q5
      clear d0 hL HZ hB
      have hol : (bv (idL (o.ids k))).length = n32 := by rw [bv_len, idL_len]; rfl
      cases hs
      · have HR2 : Hid (stopN T o (3 - (k + 1)) (k + 1) = R) := Lib.hid (by rw [← stop_next hlt (stopAt_no HHS.out)]; exact hR.out)
        have HL6 := Lib.hid (HL5.out.skip HHS.out)
        clear q5 hol
        go_wp2_with fail
        exact ⟨⟨k + 1, v, by omega, by go_num, HR2, HL6, HB5⟩, by simp [intOf]; omega⟩
      · have HSH := Lib.hid (shelf_any S bl l (o.ids k) w5 (fun q hq => Nat.lt_of_lt_of_le (hS q hq) HB5.out.size) (HBL.out w5 HB5.out) hl (fun b hb => Nat.le_trans (ht b hb) (by omega)))
        have hinv := fun n x W => method_text n x W
        generalize bv (idL (o.ids k)) = ix at *
        have HTE : Hid (textOf (o.ids k) l = T (o.ids k)) := Lib.hid (by rw [← HT.out])
        obtain ⟨tx, ec, htc⟩ : ∃ a b, T (o.ids k) = (a, b) := ⟨_, _, rfl⟩
        rw [HTE.out, htc] at HSH
        have HTC := Lib.hid htc
        have HTL : Hid (tx.length ≤ 600) := Lib.hid (by have h := hTB (o.ids k); rw [htc] at h; exact h)
        clear HTE htc
        go_wp2_with fail
        refine HSH.out.mono ?_
        rintro e w6 ⟨b, rfl, hbb, hb6⟩
        have HB6 : Hid (Below w.heap.size w w6) := Lib.hid (HB5.out.trans (hb6.mono HB5.out.size))
        have HL6 := Lib.hid (HL5.out.kept hb6)
        have HBB := Lib.hid hbb
        change Hid (BytesC _ w6 b tx) at HBB
        clear hbb hb6 q5 hol hinv HSH HL5
        by_cases h0 : ec = 0
        · subst h0
          have HST := Lib.hid (stopAt_text (T := T) (o := o) HHS.out (by rw [HTC.out]))
          have HLN := Lib.hid (lineN_yes (T := T) HHS.out)
          rw [HTC.out] at HST HLN
          have HIT := Lib.hid (isText_any _ b tx w6 HBB.out)
          obtain ⟨it, hit⟩ : ∃ x, isTextB tx = x := ⟨_, rfl⟩
          change Hid (stopAt T o k = if isTextB tx = true then none else some 0) at HST
          rw [hit] at HST HIT
          clear hit
          go_wp2_with fail
          refine HIT.out.mono ?_
          rintro e w7 ⟨rfl, rfl⟩
          cases it
          · have HRE : Hid (R = some 0) := Lib.hid (by rw [← hR.out]; exact stop_here hlt (by rw [HST.out, if_neg (by decide)]))
            go_wp2_with fail
            go_ret
            exact ⟨0, rfl, gbb HB6.out _, by rw [HRE.out]; exact ⟨rfl, HFW.out _ HB6.out⟩⟩
          · have HR2 : Hid (stopN T o (3 - (k + 1)) (k + 1) = R) := Lib.hid (by rw [← stop_next hlt (by rw [HST.out, if_pos rfl])]; exact hR.out)
            have HSP := Lib.hid (split_any _ b tx w6 (fun q hq => hq.2) HBB.out (by have := HTL.out; omega))
            have hw6 := HB6.out.size
            have htb : w.heap.size < w6.heap.size := HL6.out.box.lt
            go_wp2_with fail
            refine HSP.out.mono ?_
            rintro e w8 ⟨v', rfl, ho8, hb8⟩
            have HB8 : Hid (Below w.heap.size w w8) := Lib.hid (HB6.out.trans (hb8.mono HB6.out.size))
            have HL8 := Lib.hid (HL6.out.kept hb8)
            have e8 := HL8.out.box.cell hlt
            have f8 : w8.frozen? ⟨w.heap.size, k, none⟩ = false := HL8.out.box.free k
            have HL9 : Hid (LinesK T o w.heap.size (k + 1) (w8.setCell ⟨w.heap.size, k, none⟩ v') (fun j => if j = k then v' else v j)) := Lib.hid (HL8.out.put hlt (by
              rw [HLN.out]
              exact (ownS_c ho8).kept (fun q hq => ⟨⟨by omega, hq.2⟩, rfl⟩)))
            have HB9 : Hid (Below w.heap.size w (w8.setCell ⟨w.heap.size, k, none⟩ v')) := Lib.hid (HB8.out.setCell (Nat.le_refl _) _)
            obtain ⟨va, vc, rfl⟩ := ownS_slice ho8
            clear ho8 hb8 HL8 HL6 HBB HIT
            generalize v k = vk at *
            go_wp2_with fail
            exact ⟨⟨k + 1, _, by omega, by go_num, HR2, HL9, HB9⟩, by simp [intOf]; omega⟩
        · have g0 : (ec == 0) = false := by rw [beq_eq_false_iff_ne]; exact h0
          have g1 : (ec != 0) = true := by rw [bne, g0]; rfl
          have HRE : Hid (R = some ec) := Lib.hid (by
            rw [← hR.out]
            have h := stopAt_bad (T := T) HHS.out (by rw [HTC.out]; exact h0)
            rw [HTC.out] at h
            exact stop_here hlt h)
          go_wp2_with fail
          go_ret
          exact ⟨ec, rfl, gbb HB6.out _, by rw [HRE.out]; exact ⟨rfl, HFW.out _ HB6.out⟩⟩
    · obtain rfl : k = 3 := by omega
      have HRE : Hid (R = none) := Lib.hid hR.out.symm
      obtain ⟨m0, m1, m2⟩ := And.intro (lineN_len hTB o 0) (And.intro (lineN_len hTB o 1) (lineN_len hTB o 2))
      have HMR := Lib.hid (merge_any _ _ _ (v 0) (v 1) (v 2) _ _ _ wr (fun q hq => hq.2) (fun q hq => hq.2) (fun q hq => hq.2) (hL.out.done 0 (by omega)) (hL.out.done 1 (by omega)) (hL.out.done 2 (by omega)) (by omega) (by omega) (by omega)
        (fun x hx => Nat.le_trans (m0.2.2 x hx) (by omega)) (fun x hx => Nat.le_trans (m1.2.2 x hx) (by omega)) (fun x hx => Nat.le_trans (m2.2.2 x hx) (by omega)) (small_sq m0.1 m1.1) (small_sq m0.1 m2.1))
      change Hid (Calls _ _ _ _ (MergeP wr (mixM T o))) at HMR
      have HTX := Lib.hid (fun (W : World) (S : Nat → Prop) (vp : Value) (hp : PartsC S W vp (mixM T o)) (hS : ∀ k, S k → k < W.heap.size) => (show Calls Tryd.prog 56 #[vp, .string ⟨#[111, 117, 114, 115]⟩, .string ⟨#[116, 104, 101, 105, 114, 115]⟩] W (WTextP W (mixM T o) oursT theirsT) from
        wtext_any rfl hp hS (by omega) (fun x hx => Nat.le_trans (m0.2.2 x hx) (by omega)) (fun x hx => Nat.le_trans (m1.2.2 x hx) (by omega)) (fun x hx => Nat.le_trans (m2.2.2 x hx) (by omega)) oursT theirsT (by decide) (by decide)))
      have HXL : Hid ((textN (headN oursT) (footN theirsT) (mixM T o)).length ≤ 4194304 ∧ (textN (headN oursT) (footN theirsT) (mixM T o)).flatten.length ≤ 4194304) := Lib.hid ⟨by
        have h := (merge_len (headN oursT) (footN theirsT) (lineN T o 0) (lineN T o 1) (lineN T o 2)).1
        unfold mixM; omega, mixL_len hTB o⟩
      have HML : Hid (mixL T o = (textN (headN oursT) (footN theirsT) (mixM T o)).flatten) := Lib.hid rfl
      have HMK : Hid (mixK T o o.kind = if calmN (mixM T o) = true then 2 else o.kind) := Lib.hid rfl
      have b0 : wr.cell? ⟨w.heap.size, 0, none⟩ = some (v 0) := hL.out.box.cell (by omega)
      have b1 : wr.cell? ⟨w.heap.size, 1, none⟩ = some (v 1) := hL.out.box.cell (by omega)
      have b2 : wr.cell? ⟨w.heap.size, 2, none⟩ = some (v 2) := hL.out.box.cell (by omega)
      clear m0 m1 m2 hL
      generalize mixM T o = M at *
      generalize v 0 = v0 at *
      generalize v 1 = v1 at *
      generalize v 2 = v2 at *
      go_wp2_with fail
      refine HMR.out.mono ?_
      rintro e w5 ⟨vp, rfl, hp5, hb5⟩
      have HB5 : Hid (Below w.heap.size w w5) := Lib.hid (hB.out.trans (hb5.mono hB.out.size))
      have HT5 := Lib.hid (HTX.out w5 _ vp hp5 (fun q hq => hq.2))
      clear hp5 hb5 HMR HTX b0 b1 b2
      go_wp2_with fail
      refine HT5.out.mono ?_
      rintro e w6 ⟨vt, rfl, ho6, hb6⟩
      have HB6 : Hid (Below w.heap.size w w6) := Lib.hid (HB5.out.trans (hb6.mono HB5.out.size))
      have HO6 := Lib.hid ho6
      have HS65 : Hid (w5.heap.size ≤ w6.heap.size) := Lib.hid hb6.size
      clear hb6 HT5
      obtain ⟨ta, tc, rfl⟩ := ownS_slice ho6
      generalize textN (headN oursT) (footN theirsT) M = TX at *
      clear ho6
      go_wp2_with fail
      refine (join_any _ _ TX w6 (fun q hq => hq.2) (ownS_c HO6.out) HXL.out.1 HXL.out.2).mono ?_
      rintro e w8 ⟨v8, rfl, ho8, hb8⟩
      obtain ⟨FL, hFL⟩ : ∃ L, TX.flatten = L := ⟨_, rfl⟩
      rw [hFL] at ho8 HML
      clear hFL
      have HB8 : Hid (Below w.heap.size w w8) := Lib.hid (HB6.out.trans (hb8.mono HB6.out.size))
      have hf8 := HFW.out w8 HB8.out
      have e8 := hf8.cell (k := 35) (by unfold n138; omega)
      have f8 := hf8.free 35
      have HF9 := Lib.hid (hf8.setText v8)
      have HO8 : Hid (BytesC (fun k => w.heap.size ≤ k ∧ k < w8.heap.size) w8 v8 FL) := Lib.hid ((own_c ho8).kept (fun q hq => ⟨⟨Nat.le_trans HB6.out.size hq.1, hq.2⟩, rfl⟩))
      obtain ⟨ba, bc, rfl⟩ := own_slice ho8
      clear ho8 hb8 hf8 HO6 HB6
      generalize filF o st 35 = old at *
      go_upto_region 18 with fail
      have HB9 : Hid (w.grownBy (w8.setCell ⟨fb, 35, none⟩ (.slice ba FL.length bc)) (some fb)) := Lib.hid (gbt (gbb HB8.out _) (Only.set fb 35 w8 _).gb)
      have HO9 : Hid (BytesC (fun k => w.heap.size ≤ k ∧ k < (w8.setCell ⟨fb, 35, none⟩ (.slice ba FL.length bc)).heap.size) (w8.setCell ⟨fb, 35, none⟩ (.slice ba FL.length bc)) (.slice ba FL.length bc) FL) := Lib.hid (HO8.out.kept (fun q hq => ⟨⟨hq.1, by simpa [World.setCell] using hq.2⟩, Below.heap_setCell _ _ _ _ (by show q ≠ fb; omega)⟩))
      clear e8 f8 HO8 HB8 HFW
      generalize w8.setCell ⟨fb, 35, none⟩ (.slice ba FL.length bc) = w9 at *
      obtain ⟨cm, hcm⟩ : ∃ b, calmN M = b := ⟨_, rfl⟩
      rw [hcm] at HMK ⊢
      clear hcm
      cases cm
      · go_wp2_with fail
        go_ret
        exact ⟨0, rfl, HB9.out, by rw [HRE.out]; exact ⟨rfl, _, by rw [HMK.out, if_neg (by decide)]; exact HF9.out, by rw [HML.out]; exact HO9.out⟩⟩
      · have e9 := HF9.out.cell (k := 1) (by unfold n138; omega)
        have f9 := HF9.out.free 1
        have HF10 := Lib.hid (HF9.out.setKind 2)
        have HB10 := Lib.hid (gbt HB9.out (Only.set fb 1 w9 (.int .i64 2)).gb)
        have HO10 : Hid (BytesC (fun k => w.heap.size ≤ k ∧ k < (w9.setCell ⟨fb, 1, none⟩ (.int .i64 2)).heap.size) (w9.setCell ⟨fb, 1, none⟩ (.int .i64 2)) (.slice ba FL.length bc) FL) := Lib.hid (HO9.out.kept (fun q hq => ⟨⟨hq.1, by simpa [World.setCell] using hq.2⟩, Below.heap_setCell _ _ _ _ (by show q ≠ fb; omega)⟩))
        generalize filF { o with tv := .slice ba FL.length bc } st 1 = old1 at *
        go_wp2_with fail
        go_ret
        exact ⟨0, rfl, HB10.out, by rw [HRE.out]; exact ⟨rfl, _, by rw [HMK.out]; exact HF10.out, by rw [HML.out]; exact HO10.out⟩⟩
end Go.Proofs.YtjlpdoppnhcjoaaDoor
