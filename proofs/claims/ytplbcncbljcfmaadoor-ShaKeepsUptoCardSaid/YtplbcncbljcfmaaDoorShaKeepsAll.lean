/- The walk of the law ShaKeeps. -/
import Derived.Test.YtplbcncbljcfmaaDoorShaBackAll
import Derived.Test.YtplbcncbljcfmaaDoorStep
import Derived.Deep.RegionHeld3
namespace Go.Proofs.YtplbcncbljcfmaaDoor
open Go.RowKit
attribute [local simp high] id_size id_zero

theorem step_own_srcW {P : Program} {ops : Array Oper} {o : Oper} {a : Act} {K : Act → World → Prop} {Q : Exit → Act → World → Prop} {E : Prop} (w : World) (hw : Region.wanted o (yielded ops a.tmps) = true) (s x : Operand) (t tx : TypeId)
    (ho : o.op = .call { callee := .builtin .append, args := #[s, x], argTypes := #[t, tx] })
    (base : Nat) (e : TypeId) (i : TypeInfo) (z : Value) (size bytes : Nat) (ht : P.underlying t = some (.slice e)) (hi : P.info? e = some i) (hz : i.zero = some z)
    (hsize : i.size = size) (hby : i.bytes = bytes) (hzs : z.cells.size = size) (hsz : 0 < size)
    (v : Value) (n : Nat) (xs : List Value) (hv : a.eval s = v) (hown : w.ownsRow base e size v n xs)
    (xv : Value) (m : Nat) (news : List Value) (hx : a.eval x = xv) (hs : Src P size tx xv m news w)
    (h63 : n + m ≤ maxLen) (hbytes : (n + m) * bytes ≤ 140737488355328) (hbase : base ≤ w.heap.size)
    (h : ∀ v' w', w'.ownsRow base e size v' (n + m) (xs ++ news) → Grew w w' v v' → K (a.put o.dst v') w') :
    if Region.wanted o (yielded ops a.tmps) = true then Oper.wp P o a w K Q else E := by
  rw [if_pos hw]
  obtain ⟨v', w', hr, h2, h3⟩ := run_own_src (P := P) w base t tx o.type e i z size bytes ht hi hz hsize hby hzs hsz v n xs hown xv m news hs h63 hbytes hbase
  unfold Oper.wp execOp
  simp only [ho, resolve, invoke, builtin, Sem.run_bind, Sem.run_pure, Result.andThen_ok, List.map_toArray, List.map_cons, List.map_nil, hv, hx, hr]
  exact h v' w' h2 h3
theorem any_step {K : Act → World → Prop} {a : Act} {w : World} (h : ∀ w1, w1 = w → K a w1) : K a w := h _ rfl
theorem below_tr {w0 w w' : World} (h : Below w0.heap.size w0 w) (hb : Below w.heap.size w w') : Below w0.heap.size w0 w' := h.trans (hb.mono h.size)
theorem own_lower {w : World} {B B' : Nat} {v : Value} {l : List UInt8} (hb : B' ≤ B) (h : Own w B v l) : Own w B' v l := by
  refine ⟨h.1, ?_⟩
  rcases h.2 with h | ⟨g, cap, cur, h1, h2, h3⟩
  · exact Or.inl h
  · exact Or.inr ⟨g, cap, cur, h1, Nat.le_trans hb h2, h3⟩
theorem chunks_of (w : World) (vs : List Value) (ls : List (List UInt8)) (_ : vs.length = ls.length) (h : ∀ (j : Nat) l, ls[j]? = some l → ∃ v, vs[j]? = some v ∧ BytesC (fun k => k < w.heap.size) w v l) (hm : ls.length ≤ maxLen := by unfold maxLen; simp) :
    ChunksC (fun k => k < w.heap.size + 1) (w.alloc (.cells vs.toArray 22)) (.slice (some ⟨w.heap.size, 0, none⟩) ls.length ls.length) ls := by
  refine Or.inr ⟨_, ls.length, rfl, Nat.le_refl _, hm, Or.inr (Nat.lt_succ_self _), fun j l hj => ?_⟩
  obtain ⟨v, hv, hb⟩ := h j l hj
  refine ⟨v, ?_, hb.kept (fun k hk => ⟨Nat.lt_succ_of_lt hk, Below.heap_alloc w _ k hk⟩)⟩
  rw [Addr.add_mid, cell_of_row _ _ _ _ _ _ (new_five w _ _), Nat.zero_add]
  simpa using hv
set_option maxRecDepth 100000 in
set_option maxHeartbeats 8000000 in
theorem keeps_law (v : Value) (l : List UInt8) (w : World) (hl : l.length ≤ 1048576) (hB : BytesC (fun k => k < w.heap.size) w v l) (hE : Env w) : Calls Tryd.prog 7 #[v] w (True' w) := by
  obtain ⟨i0, hi, hz0, hz1, hz2⟩ := info_parts Tryd.info5
  have HB := Lib.hid hB
  have HE := Lib.hid hE
  obtain ⟨ao, ca, rfl⟩ := hB.shape
  have HSU1 : Hid (∀ (S : Nat → Prop) v W, (∀ k, S k → k < W.heap.size) → ChunksC S W v [l, l] → Env W → Calls Tryd.prog 17 #[v] W fun e w' => e = .returned (.agg (bv (sumN (l ++ l))).toArray) ∧ Below W.heap.size W w') := Lib.hid (fun S v W h1 h2 h3 => by
    have h := sum_any S v [l, l] W h1 h2 (by simp; omega) (by simp) h3
    rwa [show [l, l].flatten = l ++ l by simp] at h)
  have HSU2 : Hid (∀ (S : Nat → Prop) v W, (∀ k, S k → k < W.heap.size) → ChunksC S W v [l ++ l] → Env W → Calls Tryd.prog 17 #[v] W fun e w' => e = .returned (.agg (bv (sumN (l ++ l))).toArray) ∧ Below W.heap.size W w') := Lib.hid (fun S v W h1 h2 h3 => by
    have h := sum_any S v [l ++ l] W h1 h2 (by simp; omega) (by simp) h3
    rwa [show [l ++ l].flatten = l ++ l by simp] at h)
  have HOL := Lib.hid (sumN_len (l ++ l))
  obtain ⟨O, hO⟩ : ∃ O, O = sumN (l ++ l) := ⟨_, rfl⟩
  rw [← hO] at HSU1 HSU2 HOL
  obtain ⟨ll, hll⟩ : ∃ ll, ll = l ++ l := ⟨_, rfl⟩
  rw [← hll] at HSU2
  have HLL := Lib.hid hll
  have heq : ∀ W, (binOp .eql 25 (.agg (bv O).toArray) (.agg (bv O).toArray)).run Tryd.prog W = .ok (.bool true) W := fun W => by
    rw [id_eql W HOL.out HOL.out]; simp
  have HEQ := Lib.hid heq
  clear hB hE hO heq hll
  go_enter Tryd.func7, Tryd.ntmps7
  go_wp2_with fail
  refine (awake_any _ HE.out).mono ?_
  rintro e w1 ⟨rfl, hb1⟩
  have hs1 := hb1.size
  have HB1 := Lib.hid hb1
  have HS1 := Lib.hid (HB.out.kept (S' := fun k => k < w.heap.size) (w' := w1.alloc (.cells #[] 5)) (fun k hk => ⟨hk, (Below.heap_alloc w1 (.cells #[] 5) k (by omega)).trans (HB1.out.block k hk)⟩))
  have HE0 := Lib.hid (own_empty w1)
  clear hb1
  go_wp2_with (at_builtin; refine wpList_own_src _ rfl _ _ 22 22 rfl w1.heap.size 5 i0 (.int .u8 0) 1 1 Tryd.underlying22 hi hz0 hz1 hz2 rfl (by decide) _ _ _ rfl HE0.out _ _ _ rfl HS1.out.srcC ?c3 ?c4 ?c5 ?_)
  case c3 => simp; unfold maxLen; omega
  case c4 => simp; omega
  case c5 => simp
  intro v2 w2 hown2 hg2
  have hO2 : Own w2 w1.heap.size v2 l := own_more' (l := []) (by simp) hown2
  have hs2 := hg2.size
  simp at hs2
  have HB2 : Hid (Below w1.heap.size w1 w2) := Lib.hid ((Below.refl w1.heap.size w1).alloc (Nat.le_refl _) _ |>.grown hg2.gb (by simp) (fun k hk => by simp [Value.ownBlock] at hk; omega))
  clear hown2 hg2
  go_wp2_with (at_builtin; refine wpList_own_src _ rfl _ _ 22 22 rfl w1.heap.size 5 i0 (.int .u8 0) 1 1 Tryd.underlying22 hi hz0 hz1 hz2 rfl (by decide) _ _ _ rfl (hO2.alloc _) _ 1 [.int .u8 77] rfl (src_one _ _) ?d3 ?d4 ?d5 ?_)
  case d3 => unfold maxLen; omega
  case d4 => omega
  case d5 => simp; omega
  intro v3 w3 hown3 hg3
  have hO3 : Own w3 w1.heap.size v3 (l ++ [77]) := own_one hown3
  have hs3 := hg3.size
  simp at hs3
  have HB3 : Hid (Below w1.heap.size w1 w3) := Lib.hid ((HB2.out.alloc (by omega) _).grown hg3.gb (by simp; omega) (fun k hk => (World.ownsRow.lt hO2 k hk).1))
  rcases hO3.2 with ⟨_, h0⟩ | ⟨g, cap, cur, rfl, hgB, hgc, hgn, hgm, _⟩
  · simp at h0
  have hgl : g < w3.heap.size := (Array.getElem?_eq_some_iff.1 hgc).1
  simp only [List.length_append, List.length_cons, List.length_nil] at hgn
  have hcm : cap ≤ 9223372036854775807 := by unfold maxLen at hgm; omega
  have hCM : BytesC (fun k => k < w3.heap.size) w3 (.slice (some ⟨g, 0, none⟩) l.length cap) l := by
    have hc := own_c hO3
    have h2 := cut_c hc l.length (by simp)
    rw [List.take_left] at h2
    exact h2.kept (fun k hk => ⟨hk.2, rfl⟩)
  have h77 : w3.cell? ⟨g, l.length, none⟩ = some (.int .u8 77) := by
    have := World.ownsRow.cells hO3 rfl l.length (.int .u8 77) (by unfold bv; simp)
    rwa [Addr.add_mid, Nat.zero_add] at this
  rw [show (l ++ [(77 : UInt8)]).length = l.length + 1 by simp]
  have HCM := Lib.hid hCM
  have H77 := Lib.hid h77
  have HC2 := Lib.hid (chunks_of w3 [.slice (some ⟨g, 0, none⟩) l.length cap, .slice (some ⟨g, 0, none⟩) l.length cap] [l, l] rfl (fun j x hj => by
    match j, hj with
    | 0, hj => exact ⟨_, rfl, by cases hj; exact hCM⟩
    | 1, hj => exact ⟨_, rfl, by cases hj; exact hCM⟩
    | j + 2, hj => simp at hj))
  have HW3 := Lib.hid (HB1.out.trans (HB3.out.mono (by omega)))
  clear hown3 hg3 hO2 hO3 hgc hgm hCM h77
  go_wp2_with fail
  refine (HSU1.out _ _ _ (fun k hk => by simpa using hk) HC2.out (HE.out.on (HW3.out.alloc HW3.out.size _))).mono ?_
  rintro e w5 ⟨rfl, hb5⟩
  have HB5 : Hid (Below w3.heap.size w3 w5) := Lib.hid (((Below.refl w3.heap.size w3).alloc (Nat.le_refl _) _).trans (hb5.mono (by simp)))
  have i2 := IDAt.new w5
  have c1 := i2.write (l := O) HOL.out
  have zl : (bv O).length = n32 := by rw [bv_len, HOL.out]; rfl
  clear hb5 HC2 HSU1
  go_upto_region 5 with fail
  have J2 := Lib.hid (i2.put (l := O) HOL.out)
  have HB8 := Lib.hid (below_setRow (HB5.out.alloc HB5.out.size (.cells (bv zeros).toArray 25)) (show w3.heap.size ≤ w5.heap.size from HB5.out.size) (bv O).toArray)
  clear c1 i2
  generalize (w5.alloc (.cells (bv zeros).toArray 25)).setRow w5.heap.size (bv O).toArray = w8 at *
  generalize w5.heap.size = b4 at *
  have HW8 := Lib.hid (HW3.out.trans (HB8.out.mono HW3.out.size))
  have hb4 : b4 < w8.heap.size := (Array.getElem?_eq_some_iff.1 J2.out.blk).1
  have hs38 := HB8.out.size
  have HF : Hid (∀ w', Below w8.heap.size w8 w' → (convert 22 9 (.slice (some ⟨g, 0, none⟩) l.length cap)).run Tryd.prog w' = .ok (.string ⟨l.toArray⟩) w' ∧ (convert 22 9 (.slice ao l.length ca)).run Tryd.prog w' = .ok (.string ⟨l.toArray⟩) w' ∧ w'.cell? ⟨g, l.length, none⟩ = some (.int .u8 77) ∧ (loadCellsFrom ⟨b4, 0, none⟩ 0 n32 #[]).run Tryd.prog w' = .ok (bv O).toArray w' ∧ Hid (Below w8.heap.size w8 w')) := Lib.hid (fun w' hb => by
    refine ⟨?_, ?_, ?_, ?_, Lib.hid hb⟩
    · exact bytes_str (HCM.out.kept (S' := fun _ => True) (fun k hk => ⟨trivial, (hb.block k (by omega)).trans (HB8.out.block k hk)⟩))
    · exact bytes_str (HB.out.kept (S' := fun _ => True) (fun k hk => ⟨trivial, (hb.block k (by have := HW8.out.size; omega)).trans (HW8.out.block k hk)⟩))
    · exact (hb.cell (p := ⟨g, l.length, none⟩) (by show g < _; omega)).trans ((HB8.out.cell (p := ⟨g, l.length, none⟩) hgl).trans H77.out)
    · exact (J2.out.kept (hb.block b4 hb4)).cells)
  have HP : Hid (∀ w', ((convert 22 9 (.slice (some ⟨g, 0, none⟩) l.length cap)).run Tryd.prog w' = .ok (.string ⟨l.toArray⟩) w' ∧ (convert 22 9 (.slice ao l.length ca)).run Tryd.prog w' = .ok (.string ⟨l.toArray⟩) w' ∧ w'.cell? ⟨g, l.length, none⟩ = some (.int .u8 77) ∧ (loadCellsFrom ⟨b4, 0, none⟩ 0 n32 #[]).run Tryd.prog w' = .ok (bv O).toArray w' ∧ Hid (Below w8.heap.size w8 w')) → Below w8.heap.size w8 w') := Lib.hid (fun w' h => h.2.2.2.2.out)
  have HBY : Hid (∀ w', Below w8.heap.size w8 w' → BytesC (fun k => k < w.heap.size) w' (.slice ao l.length ca) l) := Lib.hid (fun w' hb => HB.out.kept (fun k hk => ⟨hk, (hb.block k (by have := HW8.out.size; omega)).trans (HW8.out.block k hk)⟩))
  have HRF := Lib.hid (Below.refl w8.heap.size w8)
  have hw1 : IntKind.i64.wrap ((l.length : Int) + 1) = (l.length : Int) + 1 := IntWalk.i64_in _ (by omega)
  have heq := HEQ.out
  have g1 : (0 : Int) ≤ (l.length : Int) := by omega
  have g2 : (l.length : Int) < (l.length : Int) + 1 := by omega
  have g3 : (0 : Int) ≤ (l.length : Int) + 1 := by omega
  have g4 : (l.length : Int) + 1 ≤ (cap : Int) := by omega
  obtain ⟨wd, hwd⟩ : ∃ wd, wd = w8.drew := ⟨_, rfl⟩
  refine wp_region_held_drew (S := (fun w' => (convert 22 9 (.slice (some ⟨g, 0, none⟩) l.length cap)).run Tryd.prog w' = .ok (.string ⟨l.toArray⟩) w' ∧ (convert 22 9 (.slice ao l.length ca)).run Tryd.prog w' = .ok (.string ⟨l.toArray⟩) w' ∧ w'.cell? ⟨g, l.length, none⟩ = some (.int .u8 77) ∧ (loadCellsFrom ⟨b4, 0, none⟩ 0 n32 #[]).run Tryd.prog w' = .ok (bv O).toArray w' ∧ Hid (Below w8.heap.size w8 w'))) (by kernel_rfl) (by first | exact HF.out _ (HP.out _ (by assumption)) | exact HF.out _ (Below.drew (Hid.out (by assumption))) | exact HF.out _ (Hid.out (by assumption))) (fun hHeld => ?_)
  refine wpAnyH_take (i := 0) (oi := ⟨_, _, _, _, _, _⟩) (v := ?_) rfl (by kernel_rfl) (by kernel_rfl) (by kernel_rfl) (fun _ _ _ h => h) (Or.inl ⟨by rfl, ?_⟩) (by assumption) ?_
  rotate_left
  · intro w hSw; (try dsimp only at hSw); first | (go_simp; done) | (go_simp; with_reducible rfl)
  try simp only [Act.put, List.setIfInBounds_toArray, List.set_cons_zero, List.set_cons_succ]
  refine wpAnyH_take (i := 1) (oi := ⟨_, _, _, _, _, _⟩) (v := ?_) rfl (by kernel_rfl) (by kernel_rfl) (by kernel_rfl) (fun _ _ _ h => h) (Or.inl ⟨by rfl, ?_⟩) (by assumption) ?_
  rotate_left
  · intro w hSw; (try dsimp only at hSw); first | (go_simp; done) | (go_simp; with_reducible rfl)
  try simp only [Act.put, List.setIfInBounds_toArray, List.set_cons_zero, List.set_cons_succ]
  refine wpAnyH_take (i := 2) (oi := ⟨_, _, _, _, _, _⟩) (v := ?_) rfl (by kernel_rfl) (by kernel_rfl) (by kernel_rfl) (fun _ _ _ h => h) (Or.inl ⟨by rfl, ?_⟩) (by assumption) ?_
  rotate_left
  · intro w hSw; (try dsimp only at hSw); first | (go_simp; done) | (go_simp; with_reducible rfl)
  try simp only [Act.put, List.setIfInBounds_toArray, List.set_cons_zero, List.set_cons_succ]
  refine wpAnyH_take (i := 3) (oi := ⟨_, _, _, _, _, _⟩) (v := ?_) rfl (by kernel_rfl) (by kernel_rfl) (by kernel_rfl) (fun _ _ _ h => h) (Or.inl ⟨by rfl, ?_⟩) (by assumption) ?_
  rotate_left
  · intro w hSw; (try dsimp only at hSw); first | (go_simp; done) | (go_simp; with_reducible rfl)
  try simp only [Act.put, List.setIfInBounds_toArray, List.set_cons_zero, List.set_cons_succ]
  refine wpAnyH_take (i := 4) (oi := ⟨_, _, _, _, _, _⟩) (v := ?_) rfl (by kernel_rfl) (by kernel_rfl) (by kernel_rfl) (fun _ _ _ h => h) (Or.inl ⟨by rfl, ?_⟩) (by assumption) ?_
  rotate_left
  · intro w hSw; (try dsimp only at hSw); first | (go_simp; done) | (go_simp; with_reducible rfl)
  try simp only [Act.put, List.setIfInBounds_toArray, List.set_cons_zero, List.set_cons_succ]
  refine wpAnyH_take (i := 5) (oi := ⟨_, _, _, _, _, _⟩) (v := ?_) rfl (by kernel_rfl) (by kernel_rfl) (by kernel_rfl) (fun _ _ _ h => h) (Or.inl ⟨by rfl, ?_⟩) (by assumption) ?_
  rotate_left
  · intro w hSw; (try dsimp only at hSw); first | (go_simp; done) | (go_simp; with_reducible rfl)
  try simp only [Act.put, List.setIfInBounds_toArray, List.set_cons_zero, List.set_cons_succ]
  refine wpAnyH_take (i := 6) (oi := ⟨_, _, _, _, _, _⟩) (v := ?_) rfl (by kernel_rfl) (by kernel_rfl) (by kernel_rfl) (fun _ _ _ h => h) (Or.inl ⟨by rfl, ?_⟩) (by assumption) ?_
  rotate_left
  · intro w hSw; (try dsimp only at hSw); first | (go_simp; done) | (go_simp; with_reducible rfl)
  try simp only [Act.put, List.setIfInBounds_toArray, List.set_cons_zero, List.set_cons_succ]
  refine wpAnyH_take (i := 7) (oi := ⟨_, _, _, _, _, _⟩) (v := ?_) rfl (by kernel_rfl) (by kernel_rfl) (by kernel_rfl) (fun _ _ _ h => h) (Or.inl ⟨by rfl, ?_⟩) (by assumption) ?_
  rotate_left
  · intro w hSw; (try dsimp only at hSw); first | (go_simp; done) | (go_simp; with_reducible rfl)
  try simp only [Act.put, List.setIfInBounds_toArray, List.set_cons_zero, List.set_cons_succ]
  refine wpAnyH_take (i := 8) (oi := ⟨_, _, _, _, _, _⟩) (v := ?_) rfl (by kernel_rfl) (by kernel_rfl) (by kernel_rfl) (fun _ _ _ h => h) (Or.inl ⟨by rfl, ?_⟩) (by assumption) ?_
  rotate_left
  · intro w hSw; (try dsimp only at hSw); first | (go_simp; done) | (go_simp; with_reducible rfl)
  try simp only [Act.put, List.setIfInBounds_toArray, List.set_cons_zero, List.set_cons_succ]
  refine wpAnyH_take (i := 9) (oi := ⟨_, _, _, _, _, _⟩) (v := ?_) rfl (by kernel_rfl) (by kernel_rfl) (by kernel_rfl) (fun _ _ _ h => h) (Or.inl ⟨by rfl, ?_⟩) (by assumption) ?_
  rotate_left
  · intro w hSw; (try dsimp only at hSw); first | (go_simp; done) | (go_simp; with_reducible rfl)
  try simp only [Act.put, List.setIfInBounds_toArray, List.set_cons_zero, List.set_cons_succ]
  refine wpAnyH_take (i := 10) (oi := ⟨_, _, _, _, _, _⟩) (v := ?_) rfl (by kernel_rfl) (by kernel_rfl) (by kernel_rfl) (fun _ _ _ h => h) (Or.inl ⟨by rfl, ?_⟩) (by assumption) ?_
  rotate_left
  · intro w hSw; (try dsimp only at hSw); first | (go_simp; done) | (go_simp; with_reducible rfl)
  try simp only [Act.put, List.setIfInBounds_toArray, List.set_cons_zero, List.set_cons_succ]
  refine wpAnyH_take (i := 11) (oi := ⟨_, _, _, _, _, _⟩) (v := ?_) rfl (by kernel_rfl) (by kernel_rfl) (by kernel_rfl) (fun _ _ _ h => h) (Or.inl ⟨by rfl, ?_⟩) (by assumption) ?_
  rotate_left
  · intro w hSw; (try dsimp only at hSw); first | (go_simp; done) | (go_simp; with_reducible rfl)
  try simp only [Act.put, List.setIfInBounds_toArray, List.set_cons_zero, List.set_cons_succ]
  refine wpAnyH_take (i := 12) (oi := ⟨_, _, _, _, _, _⟩) (v := ?_) rfl (by kernel_rfl) (by kernel_rfl) (by kernel_rfl) (fun _ _ _ h => h) (Or.inl ⟨by rfl, ?_⟩) (by assumption) ?_
  rotate_left
  · intro w hSw; (try dsimp only at hSw); first | (go_simp; done) | (go_simp; with_reducible rfl)
  try simp only [Act.put, List.setIfInBounds_toArray, List.set_cons_zero, List.set_cons_succ]
  refine wpAnyH_take (i := 13) (oi := ⟨_, _, _, _, _, _⟩) (v := ?_) rfl (by kernel_rfl) (by kernel_rfl) (by kernel_rfl) (fun _ _ _ h => h) (Or.inl ⟨by rfl, ?_⟩) (by assumption) ?_
  rotate_left
  · intro w hSw; (try dsimp only at hSw); first | (go_simp; done) | (go_simp; with_reducible rfl)
  try simp only [Act.put, List.setIfInBounds_toArray, List.set_cons_zero, List.set_cons_succ]
  refine wpAnyH_take (i := 14) (oi := ⟨_, _, _, _, _, _⟩) (v := ?_) rfl (by kernel_rfl) (by kernel_rfl) (by kernel_rfl) (fun _ _ _ h => h) (Or.inl ⟨by rfl, ?_⟩) (by assumption) ?_
  rotate_left
  · intro w hSw; (try dsimp only at hSw); first | (go_simp; done) | (go_simp; with_reducible rfl)
  try simp only [Act.put, List.setIfInBounds_toArray, List.set_cons_zero, List.set_cons_succ]
  refine wpAnyH_take (i := 15) (oi := ⟨_, _, _, _, _, _⟩) (v := ?_) rfl (by kernel_rfl) (by kernel_rfl) (by kernel_rfl) (fun _ _ _ h => h) (Or.inl ⟨by rfl, ?_⟩) (by assumption) ?_
  rotate_left
  · intro w hSw; (try dsimp only at hSw); first | (go_simp; done) | (go_simp; with_reducible rfl)
  try simp only [Act.put, List.setIfInBounds_toArray, List.set_cons_zero, List.set_cons_succ]
  refine wpAnyH_take (i := 16) (oi := ⟨_, _, _, _, _, _⟩) (v := ?_) rfl (by kernel_rfl) (by kernel_rfl) (by kernel_rfl) (fun _ _ _ h => h) (Or.inl ⟨by rfl, ?_⟩) (by assumption) ?_
  rotate_left
  · intro w hSw; (try dsimp only at hSw); first | (go_simp; done) | (go_simp; with_reducible rfl)
  try simp only [Act.put, List.setIfInBounds_toArray, List.set_cons_zero, List.set_cons_succ]
  refine wpAnyH_take (i := 17) (oi := ⟨_, _, _, _, _, _⟩) (v := ?_) rfl (by kernel_rfl) (by kernel_rfl) (by kernel_rfl) (fun _ _ _ h => h) (Or.inl ⟨by rfl, ?_⟩) (by assumption) ?_
  rotate_left
  · intro w hSw; (try dsimp only at hSw); first | (go_simp; done) | (go_simp; with_reducible rfl)
  try simp only [Act.put, List.setIfInBounds_toArray, List.set_cons_zero, List.set_cons_succ]
  refine wpAnyH_take (i := 18) (oi := ⟨_, _, _, _, _, _⟩) (v := ?_) rfl (by kernel_rfl) (by kernel_rfl) (by kernel_rfl) (fun _ _ _ h => h) (Or.inl ⟨by rfl, ?_⟩) (by assumption) ?_
  rotate_left
  · intro w hSw; (try dsimp only at hSw); first | (go_simp; done) | (go_simp; with_reducible rfl)
  try simp only [Act.put, List.setIfInBounds_toArray, List.set_cons_zero, List.set_cons_succ]
  refine wpAnyH_take (i := 20) (oi := ⟨_, _, _, _, _, _⟩) (v := ?_) rfl (by kernel_rfl) (by kernel_rfl) (by kernel_rfl) (fun _ _ _ h => h) (Or.inl ⟨by rfl, ?_⟩) (by assumption) ?_
  rotate_left
  · intro w hSw; (try dsimp only at hSw); first | (go_simp; done) | (go_simp; with_reducible rfl)
  try simp only [Act.put, List.setIfInBounds_toArray, List.set_cons_zero, List.set_cons_succ]
  refine wpAnyH_take (i := 22) (oi := ⟨_, _, _, _, _, _⟩) (v := ?_) rfl (by kernel_rfl) (by kernel_rfl) (by kernel_rfl) (fun _ _ _ h => h) (Or.inl ⟨by rfl, ?_⟩) (by assumption) ?_
  rotate_left
  · intro w hSw; (try dsimp only at hSw); first | (go_simp; done) | (go_simp; with_reducible rfl)
  try simp only [Act.put, List.setIfInBounds_toArray, List.set_cons_zero, List.set_cons_succ]
  refine wpAnyH_ready (rs := [19]) (by kernel_rfl) (by simp) ?_
  refine AllReadyH.cons (o := ⟨_, _, _, _, _, _⟩) rfl (fun K hK => ?_) AllReadyH.nil
  go_simp
  refine any_step (fun wA1 hN => ?_)
  have HA1 : Hid (Below w8.heap.size w8 wA1) := Lib.hid (by rw [hN]; exact (Below.alloc (HP.out _ (by assumption)) (Below.size (HP.out _ (by assumption))) _))
  have HEA1 : Hid (Own wA1 w8.heap.size (.slice (some ⟨w8.heap.size, 0, none⟩) 0 0) []) := Lib.hid (by rw [hN]; exact (own_empty w8).kept (fun _ _ => rfl))
  clear hN
  try go_wp2_with fail
  refine hK.out _ _ (by first | exact HF.out _ (HP.out _ (by assumption)) | exact HF.out _ (Below.drew (Hid.out (by assumption))) | exact HF.out _ (Hid.out (by assumption))) (fun hHeld => ?_)
  clear hK K
  try simp only [Act.put, List.setIfInBounds_toArray, List.set_cons_zero, List.set_cons_succ]
  refine wpAnyH_ready (rs := [21]) (by kernel_rfl) (by simp) ?_
  refine AllReadyH.cons (o := ⟨_, _, _, _, _, _⟩) rfl (fun K hK => ?_) AllReadyH.nil
  refine step_own_srcW _ (by kernel_rfl) _ _ 22 22 (by rfl) w8.heap.size 5 i0 (.int .u8 0) 1 1 Tryd.underlying22 hi hz0 hz1 hz2 rfl (by decide) _ _ _ (by rfl) HEA1.out _ _ _ (by rfl) (HBY.out _ HA1.out).srcC (by simp; unfold maxLen; omega) (by simp; omega) HA1.out.size ?_
  intro vA2 wA2 hO hG
  have HA2 : Hid (Below w8.heap.size w8 wA2) := Lib.hid (HA1.out.grown hG.gb HA1.out.size (fun k hk => (World.ownsRow.lt HEA1.out k hk).1))
  have HEA2 : Hid (Own wA2 w8.heap.size vA2 l) := Lib.hid (own_more' (l := []) (by simp) hO)
  clear hO hG
  refine hK.out _ _ (by first | exact HF.out _ (HP.out _ (by assumption)) | exact HF.out _ (Below.drew (Hid.out (by assumption))) | exact HF.out _ (Hid.out (by assumption))) (fun hHeld => ?_)
  clear hK K
  try simp only [Act.put, List.setIfInBounds_toArray, List.set_cons_zero, List.set_cons_succ]
  refine wpAnyH_ready (rs := [23]) (by kernel_rfl) (by simp) ?_
  refine AllReadyH.cons (o := ⟨_, _, _, _, _, _⟩) rfl (fun K hK => ?_) AllReadyH.nil
  refine step_own_srcW _ (by kernel_rfl) _ _ 22 22 (by rfl) w8.heap.size 5 i0 (.int .u8 0) 1 1 Tryd.underlying22 hi hz0 hz1 hz2 rfl (by decide) _ _ _ (by rfl) HEA2.out _ _ _ (by rfl) (HBY.out _ HA2.out).srcC (by unfold maxLen; omega) (by omega) HA2.out.size ?_
  intro vA3 wA3 hO hG
  have HA3 : Hid (Below w8.heap.size w8 wA3) := Lib.hid (HA2.out.grown hG.gb HA2.out.size (fun k hk => (World.ownsRow.lt HEA2.out k hk).1))
  have HEA3 : Hid (Own wA3 w8.heap.size vA3 ll) := Lib.hid (by rw [HLL.out]; exact own_more' rfl hO)
  clear hO hG
  refine hK.out _ _ (by first | exact HF.out _ (HP.out _ (by assumption)) | exact HF.out _ (Below.drew (Hid.out (by assumption))) | exact HF.out _ (Hid.out (by assumption))) (fun hHeld => ?_)
  clear hK K
  try simp only [Act.put, List.setIfInBounds_toArray, List.set_cons_zero, List.set_cons_succ]
  refine wpAnyH_ready (rs := [24]) (by kernel_rfl) (by simp) ?_
  refine AllReadyH.cons (o := ⟨_, _, _, _, _, _⟩) rfl (fun K hK => ?_) AllReadyH.nil
  obtain ⟨a3, c3', rfl⟩ := own_slice HEA3.out
  go_simp
  refine any_step (fun wA4 hN => ?_)
  have HA4 : Hid (Below w8.heap.size w8 wA4) := Lib.hid (by rw [hN]; exact HA3.out.alloc HA3.out.size _)
  have HCX : Hid (ChunksC (fun k => k < wA3.heap.size + 1) wA4 (.slice (some ⟨wA3.heap.size, 0, none⟩) 1 1) [ll]) := Lib.hid (by rw [hN]; exact chunks_of wA3 [.slice a3 ll.length c3'] [ll] rfl (fun j x hj => by
    have hb := own_c HEA3.out
    match j, hj with
    | 0, hj => exact ⟨_, rfl, by cases hj; exact hb.kept (fun k hk => ⟨hk.2, rfl⟩)⟩
    | j + 1, hj => simp at hj))
  have HSX : Hid (wA4.heap.size = wA3.heap.size + 1) := Lib.hid (by rw [hN]; simp)
  clear hN
  try go_wp2_with fail
  refine hK.out _ _ (by first | exact HF.out _ (HP.out _ (by assumption)) | exact HF.out _ (Below.drew (Hid.out (by assumption))) | exact HF.out _ (Hid.out (by assumption))) (fun hHeld => ?_)
  clear hK K
  try simp only [Act.put, List.setIfInBounds_toArray, List.set_cons_zero, List.set_cons_succ]
  refine wpAnyH_ready (rs := [25]) (by kernel_rfl) (by simp) ?_
  refine AllReadyH.cons (o := ⟨_, _, _, _, _, _⟩) rfl (fun K hK => ?_) AllReadyH.nil
  go_simp
  refine (HSU2.out _ _ _ (fun k hk => by rw [HSX.out]; exact hk) HCX.out (HE.out.on (HW8.out.trans (HA4.out.mono HW8.out.size)))).mono ?_; rintro e wa9 ⟨rfl, hba⟩; have HA9 := Lib.hid (below_tr HA4.out hba); clear hba
  try go_wp2_with fail
  refine hK.out _ _ (by first | exact HF.out _ (HP.out _ (by assumption)) | exact HF.out _ (Below.drew (Hid.out (by assumption))) | exact HF.out _ (Hid.out (by assumption))) (fun hHeld => ?_)
  clear hK K
  try simp only [Act.put, List.setIfInBounds_toArray, List.set_cons_zero, List.set_cons_succ]
  refine wpAnyH_take (i := 26) (oi := ⟨_, _, _, _, _, _⟩) (v := ?_) rfl (by kernel_rfl) (by kernel_rfl) (by kernel_rfl) (fun _ _ _ h => h) (Or.inl ⟨by rfl, ?_⟩) (by assumption) ?_
  rotate_left
  · intro w hSw; (try dsimp only at hSw); first | (go_simp; done) | (go_simp; with_reducible rfl)
  try simp only [Act.put, List.setIfInBounds_toArray, List.set_cons_zero, List.set_cons_succ]
  refine wpAnyH_take (i := 27) (oi := ⟨_, _, _, _, _, _⟩) (v := ?_) rfl (by kernel_rfl) (by kernel_rfl) (by kernel_rfl) (fun _ _ _ h => h) (Or.inl ⟨by rfl, ?_⟩) (by assumption) ?_
  rotate_left
  · intro w hSw; (try dsimp only at hSw); first | (go_simp; done) | (go_simp; with_reducible rfl)
  try simp only [Act.put, List.setIfInBounds_toArray, List.set_cons_zero, List.set_cons_succ]
  refine wpAnyH_take (i := 28) (oi := ⟨_, _, _, _, _, _⟩) (v := ?_) rfl (by kernel_rfl) (by kernel_rfl) (by kernel_rfl) (fun _ _ _ h => h) (Or.inl ⟨by rfl, ?_⟩) (by assumption) ?_
  rotate_left
  · intro w hSw; (try dsimp only at hSw); first | (go_simp; done) | (go_simp; with_reducible rfl)
  try simp only [Act.put, List.setIfInBounds_toArray, List.set_cons_zero, List.set_cons_succ]
  refine wpAnyH_done (by kernel_rfl) ?_ _
  go_wp2_with fail
  go_ret
  exact ⟨rfl, HW8.out.trans (HA9.out.mono HW8.out.size)⟩
end Go.Proofs.YtplbcncbljcfmaaDoor
