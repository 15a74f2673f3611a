/- Texts in memory, rows of moves of one's own; the walk of score.candidates. -/
import Derived.Test.YtaajfekolokaoaaScD
namespace Go.Proofs.Ytaajfekolokaoaa
open Go.RowKit

structure TextN where
  path : List UInt8
  lines : List (List UInt8)
def textRel (S : Nat → Prop) (w : World) (t : TextN) (cs : List Value) : Prop := ∃ v, cs = [.string ⟨t.path.toArray⟩, v] ∧ StrsC S w v t.lines
theorem text_keeps : Keeps textRel := fun _ _ _ _ _ _ h hk => by
  obtain ⟨v, e, h1⟩ := h
  exact ⟨v, e, h1.kept hk⟩
def TextsC (S : Nat → Prop) (w : World) (v : Value) (ts : List TextN) : Prop := RowsC textRel 2 S w v ts
def TextOk (t : TextN) : Prop := t.path.length ≤ 4194304 ∧ t.lines.length ≤ 1000 ∧ ∀ x ∈ t.lines, x.length ≤ 4194304
def m3 (P : List Mv) : List Value := P.flatMap mvL
theorem m3_append (P Q : List Mv) : m3 (P ++ Q) = m3 P ++ m3 Q := by unfold m3; simp
theorem m3_one (P : List Mv) : ∀ u ∈ m3 P, u.oneCell' = true := by
  intro u hu
  obtain ⟨p, _, h2⟩ := List.mem_flatMap.1 hu
  unfold mvL at h2
  simp at h2
  rcases h2 with rfl | rfl | rfl <;> rfl
def OwnV (w : World) (B : Nat) (v : Value) (P : List Mv) : Prop := w.ownsRow B 43 3 v P.length (m3 P)
theorem ownV_nil (w : World) (B : Nat) : OwnV w B (.slice none 0 0) [] := World.ownsRow_nil _ _ _ _
theorem ownV_push {w2 : World} {B : Nat} {v : Value} {P : List Mv} {m : Mv} (h : w2.ownsRow B 43 3 v (P.length + 1) (m3 P ++ mvL m)) : OwnV w2 B v (P ++ [m]) := by
  unfold OwnV
  rw [m3_append, List.length_append]
  have e : m3 [m] = mvL m := by unfold m3; simp
  rw [e]; exact h
theorem ownV_slice {w : World} {B : Nat} {v : Value} {P : List Mv} (h : OwnV w B v P) : ∃ a cap, v = .slice a P.length cap := by
  rcases h.2 with ⟨e, hn⟩ | ⟨g, cap, cur, e, _⟩
  · rw [hn]; exact ⟨none, 0, e⟩
  · exact ⟨_, _, e⟩
theorem srcV_one (w : World) (a b : ByteArray) (f : Nat) : Src Try.prog 3 34 (.slice (some ⟨w.heap.size, 0, none⟩) 1 1) 1 [.string a, .string b, .float .f64 f] (w.alloc (.cells #[.string a, .string b, .float .f64 f] 43)) :=
  Src.ofSlice _ Try.underlying34 _ 1 1 _ rfl (fun j u hj => by
    rw [add_pos, Nat.zero_add, World.cell?_alloc_mark]; simpa using hj) (fun u hu => by
    simp at hu; rcases hu with rfl | rfl | rfl <;> rfl)
theorem Try.info43v : (Try.prog.info? 43).map (fun i => (i.zero, i.size, i.bytes)) = some (some (.agg #[.string ByteArray.empty, .string ByteArray.empty, .float .f64 0]), 3, 40) := by kernel_rfl
/-- Of one text that is gone the moves that may be. -/
def rowN (least : Nat) (g : TextN) (cs : List TextN) : List Mv := cs.filterMap fun c => if keyN (alN g.lines c.lines) < keyN least then none else some ⟨g.path, c.path, alN g.lines c.lines⟩
def candN (least : Nat) (gs cs : List TextN) : List Mv := gs.flatMap fun g => rowN least g cs
theorem rowN_cons (least : Nat) (g c : TextN) (cs : List TextN) : rowN least g (c :: cs) = (if keyN (alN g.lines c.lines) < keyN least then [] else [⟨g.path, c.path, alN g.lines c.lines⟩]) ++ rowN least g cs := by
  unfold rowN
  rw [List.filterMap_cons]
  by_cases h : keyN (alN g.lines c.lines) < keyN least
  · rw [if_pos h, if_pos h]; rfl
  · rw [if_neg h, if_neg h]; rfl
theorem rowN_len (least : Nat) (g : TextN) (cs : List TextN) : (rowN least g cs).length ≤ cs.length := List.length_filterMap_le _ _
theorem candN_cons (least : Nat) (g : TextN) (gs cs : List TextN) : candN least (g :: gs) cs = rowN least g cs ++ candN least gs cs := by unfold candN; simp
theorem candN_len (least : Nat) (gs cs : List TextN) : (candN least gs cs).length ≤ gs.length * cs.length := by
  induction gs with
  | nil => simp [candN]
  | cons g gs ih =>
    rw [candN_cons, List.length_append, List.length_cons, Nat.succ_mul]
    have := rowN_len least g cs
    omega
theorem ratW_lt {x y : Nat} (hx : x ≤ 9223372036854775807) (hy : y ≤ 9223372036854775807) (h : y = 0 → x = 0) : ratW x y < 18446744073709551616 := by
  by_cases hy0 : y = 0
  · have hx0 := h hy0
    subst hy0; subst hx0
    rw [ratW_zero]; decide
  · obtain ⟨q, q0, q1, eq⟩ := float_int (y : Int) (by omega) (by omega) (by omega)
    unfold ratW
    by_cases h0 : x = 0
    · subst h0
      have e : floatOfInt .f64 ((0 : Nat) : Int) = 0 := float_zero
      rw [e, eq, zero_div q0 q1]
      exact wordS_lt (by omega)
    · obtain ⟨r, r0, r1, er⟩ := float_int (x : Int) (by omega) (by omega) (by omega)
      obtain ⟨z, z0, z1, ez⟩ := div_some (s := decide ((x : Int) < 0)) (t := decide ((y : Int) < 0)) r0 r1 q0 q1
      rw [er, eq, ez]
      exact wordS_lt (by omega)
theorem alN_lt {a b : List (List UInt8)} (ha : a.length ≤ 4194304) (hb : b.length ≤ 4194304) : alN a b < 18446744073709551616 := by
  have := al_le a b
  exact ratW_lt (by omega) (by omega) (by omega)
theorem box2 {w w' : World} {b : Nat} {x y : Value} {t : TypeId} (h : w.heap[b]? = some (.cells #[x, y] t (0, 0))) (hk : w'.heap[b]? = w.heap[b]?) : w'.cell? ⟨b, 0, none⟩ = some x ∧ w'.cell? ⟨b, 1, none⟩ = some y := by
  have h2 := hk.trans h
  exact ⟨by rw [cell_of_row _ _ _ _ _ _ h2]; rfl, by rw [cell_of_row _ _ _ _ _ _ h2]; rfl⟩
theorem getD_some {α : Type} {l : List α} {k : Nat} (h : k < l.length) : ∃ x, l[k]? = some x ∧ l.drop k = x :: l.drop (k + 1) := ⟨l[k], List.getElem?_eq_getElem h, List.drop_eq_getElem_cons h⟩

set_option maxRecDepth 100000 in
set_option maxHeartbeats 4000000 in
theorem cands_any (S T : Nat → Prop) (vg vc : Value) (gs cs : List TextN) (least : Nat) (w : World) (hS : ∀ k, S k → k < w.heap.size) (hT : ∀ k, T k → k < w.heap.size) (hg : TextsC S w vg gs) (hc : TextsC T w vc cs) (hgl : gs.length ≤ 64) (hcl : cs.length ≤ 64) (hgo : ∀ t ∈ gs, TextOk t) (hco : ∀ t ∈ cs, TextOk t) (hl : least < 18446744073709551616) :
    Calls Try.prog 26 #[vg, vc, .float .f64 least] w fun e w' => ∃ v, e = .returned (.tuple #[v, .int .i64 0]) ∧ OwnV w' w.heap.size v (candN least gs cs) ∧ Below w.heap.size w w' := by
  obtain ⟨i0, hi, hz0, hz1, hz2⟩ := info_parts Try.info43v
  obtain ⟨ga, gc, rfl⟩ := hg.shape
  obtain ⟨ca, cc, rfl⟩ := hc.shape
  have HG : Hid (∀ W, Below w.heap.size w W → TextsC S W (.slice ga gs.length gc) gs) := Lib.hid (fun W hW => hg.kept text_keeps (fun k hk => ⟨hk, hW.block k (hS k hk)⟩))
  have HC : Hid (∀ W, Below w.heap.size w W → TextsC T W (.slice ca cs.length cc) cs) := Lib.hid (fun W hW => hc.kept text_keeps (fun k hk => ⟨hk, hW.block k (hT k hk)⟩))
  have HSS := Lib.hid hS
  have HTT := Lib.hid hT
  have HGO := Lib.hid hgo
  have HCO := Lib.hid hco
  have HLL := Lib.hid hl
  obtain ⟨PP, hPP⟩ : ∃ PP, candN least gs cs = PP := ⟨_, rfl⟩
  have HP0 : Hid ([] ++ candN least (gs.drop 0) cs = PP) := Lib.hid (by simpa using hPP)
  have HPL : Hid (PP.length ≤ 4096) := Lib.hid (by rw [← hPP]; exact Nat.le_trans (candN_len least gs cs) (Nat.mul_le_mul hgl hcl))
  rw [hPP]
  clear hg hc hS hT hgo hco hl hPP
  obtain ⟨gn, hgn⟩ : ∃ gn, gs.length = gn := ⟨_, rfl⟩
  obtain ⟨cn, hcn⟩ : ∃ cn, cs.length = cn := ⟨_, rfl⟩
  have HGN := Lib.hid hgn
  have HCN := Lib.hid hcn
  rw [hgn] at hgl HG ⊢
  rw [hcn] at hcl HC ⊢
  clear hgn hcn
  have HB0 := Lib.hid (Below.refl w.heap.size w)
  go_enter Try.func26, Try.ntmps26
  go_wp2_with fail
  go_loopw [8, 17] (fun o i wr => ∃ (k : Nat) (P : List Mv), k ≤ gn ∧ i = .int .i64 (k : Int) ∧ Hid (OwnV wr w.heap.size o P) ∧ Hid (P ++ candN least (gs.drop k) cs = PP) ∧ Hid (Below w.heap.size w wr)) (fun _ i _ => gn - (intOf i).toNat)
  case atStart => exact ⟨0, [], Nat.zero_le _, rfl, Lib.hid (ownV_nil _ _), HP0, HB0⟩
  case round =>
    obtain ⟨k, P, hk, rfl, hO, hE, hW⟩ := hrel
    obtain ⟨oa, oc, rfl⟩ := ownV_slice hO.out
    by_cases hlt : k < gn
    · obtain ⟨g, eg, ed⟩ := getD_some (l := gs) (k := k) (by rw [HGN.out]; exact hlt)
      have hga := (HG.out wr hW.out)
      rw [← HGN.out] at hga
      obtain ⟨gb, go, rfl, sgb, hle1, hle2, hcells⟩ := hga.at (by rw [HGN.out]; omega)
      obtain ⟨css, hcl2, ⟨gv, rfl, hgs⟩, hcc⟩ := hcells k g eg
      have d0 : wr.cell? ⟨gb, go + k * 2, none⟩ = _ := hcc 0 _ rfl
      have d1 := hcc 1 _ rfl
      rw [← Nat.add_assoc] at d1
      obtain ⟨la, lc, rfl⟩ := hgs.shape
      have HGS : Hid (∀ W, Below w.heap.size w W → StrsC S W (.slice la g.lines.length lc) g.lines) := Lib.hid (fun W hW2 => hgs.kept (fun k hk => ⟨hk, (hW2.block k (HSS.out k hk)).trans (hW.out.block k (HSS.out k hk)).symm⟩))
      have HEG := Lib.hid eg
      have HE1 : Hid (P ++ rowN least g (cs.drop 0) ++ candN least (gs.drop (k + 1)) cs = PP) := Lib.hid (by rw [← hE.out, ed, candN_cons]; simp)
      rw [HGN.out] at hle1
      clear hga hcells hcc hcl2 hgs ed eg hE
      go_wp2_with fail
      obtain ⟨w1, hw1⟩ : ∃ w1, w1 = wr.alloc (.cells #[.string ⟨g.path.toArray⟩, .slice la g.lines.length lc] 49) := ⟨_, rfl⟩
      have BX0 : Hid (w1.heap[wr.heap.size]? = some (.cells #[.string ⟨g.path.toArray⟩, .slice la g.lines.length lc] 49 (0, 0)) ∧ wr.heap.size < w1.heap.size) := Lib.hid (by rw [hw1]; exact ⟨new_five wr _ _, by simp⟩)
      have O1 : Hid (OwnV w1 w.heap.size (.slice oa P.length oc) P) := Lib.hid (by rw [hw1]; exact World.ownsRow.alloc hO.out _)
      have W1 : Hid (Below w.heap.size w w1) := Lib.hid (by rw [hw1]; exact hW.out.alloc hW.out.size _)
      have N1 : Hid (∀ q, (Value.slice oa P.length oc).ownBlock = some q → q ≠ wr.heap.size) := Lib.hid (fun q hq => Nat.ne_of_lt (World.ownsRow.lt hO.out q hq).2)
      have PG := Lib.hid (HGO.out g (List.mem_of_getElem? HEG.out))
      obtain ⟨P1, hP1⟩ : ∃ P1, P ++ rowN least g cs = P1 := ⟨_, rfl⟩
      have HE2 : Hid (P ++ rowN least g (cs.drop 0) = P1) := Lib.hid (by rw [← hP1]; simp)
      have HE3 : Hid (P1 ++ candN least (gs.drop (k + 1)) cs = PP) := Lib.hid (by rw [← HE2.out]; exact HE1.out)
      rw [← hw1]
      clear hw1 hO hW HE1 HEG hP1 d0 d1
      generalize wr.heap.size = b at *
      go_loopw [8, 23] (fun o i wr => ∃ (k : Nat) (P : List Mv), k ≤ cn ∧ i = .int .i64 (k : Int) ∧ Hid (OwnV wr w.heap.size o P) ∧ Hid (P ++ rowN least g (cs.drop k) = P1) ∧ Hid (Below w.heap.size w wr) ∧ Hid (wr.heap[b]? = some (.cells #[.string ⟨g.path.toArray⟩, .slice la g.lines.length lc] 49 (0, 0)) ∧ b < wr.heap.size) ∧ Hid (∀ q, o.ownBlock = some q → q ≠ b)) (fun _ i _ => cn - (intOf i).toNat)
      case atStart => exact ⟨0, P, Nat.zero_le _, rfl, O1, HE2, W1, BX0, N1⟩
      case round =>
        obtain ⟨k2, P2, hk2, rfl, hO2, hE2, hW2, hBx, hNe⟩ := hrel
        obtain ⟨oa2, oc2, rfl⟩ := ownV_slice hO2.out
        by_cases hlt2 : k2 < cn
        · obtain ⟨c, ec, ed2⟩ := getD_some (l := cs) (k := k2) (by rw [HCN.out]; exact hlt2)
          have hca := (HC.out wr hW2.out)
          rw [← HCN.out] at hca
          obtain ⟨cb, co, rfl, scb, hle3, hle4, hcells2⟩ := hca.at (by rw [HCN.out]; omega)
          obtain ⟨css2, hcl3, ⟨cv, rfl, hcs⟩, hcc2⟩ := hcells2 k2 c ec
          have d2 : wr.cell? ⟨cb, co + k2 * 2, none⟩ = _ := hcc2 0 _ rfl
          have d3 := hcc2 1 _ rfl
          rw [← Nat.add_assoc] at d3
          obtain ⟨ma, mc, rfl⟩ := hcs.shape
          have PC := Lib.hid (HCO.out c (List.mem_of_getElem? ec))
          have HE4 : Hid (P2 ++ ((if keyN (alN g.lines c.lines) < keyN least then [] else [⟨g.path, c.path, alN g.lines c.lines⟩]) ++ rowN least g (cs.drop (k2 + 1))) = P1) := Lib.hid (by rw [← rowN_cons, ← ed2]; exact hE2.out)
          rw [HCN.out] at hle3
          have hPl : P2.length ≤ 4096 := by
            have h1 := congrArg List.length hE2.out
            have h2 := congrArg List.length HE3.out
            rw [List.length_append] at h1 h2
            have := HPL.out
            omega
          obtain ⟨w2, hw2⟩ : ∃ w2, w2 = wr.alloc (.cells #[.string ⟨c.path.toArray⟩, .slice ma c.lines.length mc] 49) := ⟨_, rfl⟩
          have hlt5 := hBx.out.2
          have BX2 : Hid (w2.heap[b]? = some (.cells #[.string ⟨g.path.toArray⟩, .slice la g.lines.length lc] 49 (0, 0)) ∧ b < w2.heap.size) := Lib.hid (by rw [hw2]; exact ⟨(Below.heap_alloc _ _ _ hlt5).trans hBx.out.1, by simp; omega⟩)
          have CX2 : Hid (w2.heap[wr.heap.size]? = some (.cells #[.string ⟨c.path.toArray⟩, .slice ma c.lines.length mc] 49 (0, 0)) ∧ wr.heap.size < w2.heap.size) := Lib.hid (by rw [hw2]; exact ⟨new_five wr _ _, by simp⟩)
          have O2 : Hid (OwnV w2 w.heap.size (.slice oa2 P2.length oc2) P2) := Lib.hid (by rw [hw2]; exact World.ownsRow.alloc hO2.out _)
          have W2 : Hid (Below w.heap.size w w2) := Lib.hid (by rw [hw2]; exact hW2.out.alloc hW2.out.size _)
          have WR2 : Hid (Below wr.heap.size wr w2) := Lib.hid (by rw [hw2]; exact (Below.refl _ _).alloc (Nat.le_refl _) _)
          have GL2 : Hid (StrsC (fun k => k < w2.heap.size) w2 (.slice la g.lines.length lc) g.lines) := Lib.hid ((HGS.out w2 W2.out).kept (fun k hk => ⟨Nat.lt_of_lt_of_le (HSS.out k hk) W2.out.size, rfl⟩))
          have CL2 : Hid (StrsC (fun k => k < w2.heap.size) w2 (.slice ma c.lines.length mc) c.lines) := Lib.hid (hcs.kept (fun k hk => ⟨Nat.lt_of_lt_of_le (HTT.out k hk) W2.out.size, WR2.out.block k (Nat.lt_of_lt_of_le (HTT.out k hk) hW2.out.size)⟩))
          have AL := Lib.hid (alike_ok (fun k => k < w2.heap.size) (fun k => k < w2.heap.size) _ _ g.lines c.lines w2 (fun _ h => h) (fun _ h => h) GL2.out CL2.out (by have := PG.out.2.1; omega) (by have := PC.out.2.1; omega) PG.out.2.2 PC.out.2.2 (Nat.le_trans (Nat.mul_le_mul PG.out.2.1 PC.out.2.1) (by decide)))
          have SL : Hid (alN g.lines c.lines < 18446744073709551616) := Lib.hid (alN_lt (by have := PG.out.2.1; omega) (by have := PC.out.2.1; omega))
          obtain ⟨bx0, bx1⟩ := box2 hBx.out.1 rfl
          clear hca hcells2 hcc2 hcl3 hcs ec ed2 hE2 hW2 hO2
          go_wp2_with fail
          rw [← hw2]
          have HLW := Lib.hid hlt5
          clear hw2 bx0 bx1 d2 d3 hlt5 WR2
          generalize wr.heap.size = d at *
          refine (AL.out).mono ?_
          rintro e w4 ⟨rfl, hb4⟩
          have BX4 : Hid (w4.heap[b]? = some (.cells #[.string ⟨g.path.toArray⟩, .slice la g.lines.length lc] 49 (0, 0)) ∧ b < w4.heap.size) := Lib.hid ⟨(hb4.block b BX2.out.2).trans BX2.out.1, Nat.lt_of_lt_of_le BX2.out.2 hb4.size⟩
          have CX4 : Hid (w4.heap[d]? = some (.cells #[.string ⟨c.path.toArray⟩, .slice ma c.lines.length mc] 49 (0, 0)) ∧ d < w4.heap.size) := Lib.hid ⟨(hb4.block d CX2.out.2).trans CX2.out.1, Nat.lt_of_lt_of_le CX2.out.2 hb4.size⟩
          have O4 : Hid (OwnV w4 w.heap.size (.slice oa2 P2.length oc2) P2) := Lib.hid (own_below O2.out (fun q _ hq => hb4.block q hq))
          have W4 : Hid (Below w.heap.size w w4) := Lib.hid (W2.out.trans (hb4.mono W2.out.size))
          have HCM := Lib.hid (st_compare_any (alN g.lines c.lines) least SL.out HLL.out)
          clear hb4 AL GL2 CL2 W2 O2 CX2 BX2
          generalize alN g.lines c.lines = sc at *
          by_cases hkl : keyN sc < keyN least
          · have HE5 : Hid (P2 ++ rowN least g (cs.drop (k2 + 1)) = P1) := Lib.hid (by have h := HE4.out; rw [if_pos hkl] at h; simpa using h)
            have hd : decide (0 ≤ cmpN (keyN sc) (keyN least)) = false := by unfold cmpN; rw [if_pos hkl]; rfl
            generalize cmpN (keyN sc) (keyN least) = r at *
            clear HE4 hkl
            go_wp2_with fail
            refine (HCM.out _).mono ?_
            rintro e w5 ⟨rfl, rfl⟩
            go_wp2_with fail
            go_roundw
            case rel => exact ⟨k2 + 1, P2, by omega, by go_num, O4, HE5, W4, BX4, hNe⟩
            case measure => simp [intOf]; omega
          · have HE5 : Hid (P2 ++ [⟨g.path, c.path, sc⟩] ++ rowN least g (cs.drop (k2 + 1)) = P1) := Lib.hid (by have h := HE4.out; rw [if_neg hkl] at h; rw [List.append_assoc]; exact h)
            have hd : decide (0 ≤ cmpN (keyN sc) (keyN least)) = true := by unfold cmpN; rw [if_neg hkl]; split <;> rfl
            generalize cmpN (keyN sc) (keyN least) = r at *
            clear HE4 hkl
            go_wp2_with fail
            refine (HCM.out _).mono ?_
            rintro e w5 ⟨rfl, rfl⟩
            have hs4 := W4.out.size
            obtain ⟨bx0, bx1⟩ := box2 BX4.out.1 rfl
            obtain ⟨cx0, cx1⟩ := box2 CX4.out.1 rfl
            go_wp2_with (at_builtin; refine wpList_own_src _ rfl _ _ 34 34 rfl w.heap.size 43 i0 (.agg #[.string ByteArray.empty, .string ByteArray.empty, .float .f64 0]) 3 40 Try.underlying34 hi hz0 hz1 hz2 rfl (by decide) _ _ _ rfl (World.ownsRow.alloc O4.out _) _ 1 [.string ⟨g.path.toArray⟩, .string ⟨c.path.toArray⟩, .float .f64 sc] rfl (srcV_one _ _ _ _) (by unfold maxLen; omega) (by omega) (by simp; omega) ?_)
            intro v5 w5 hown5 hg5
            have hbl := BX4.out.2
            have O5 : Hid (OwnV w5 w.heap.size v5 (P2 ++ [⟨g.path, c.path, sc⟩])) := Lib.hid (ownV_push hown5)
            have W5 : Hid (Below w.heap.size w w5) := Lib.hid ((W4.out.alloc W4.out.size _).grown hg5.gb (by have := W4.out.size; simp; omega) (fun j hj => (World.ownsRow.lt O4.out j hj).1))
            have BX5 : Hid (w5.heap[b]? = some (.cells #[.string ⟨g.path.toArray⟩, .slice la g.lines.length lc] 49 (0, 0)) ∧ b < w5.heap.size) := Lib.hid (by
              refine ⟨?_, ?_⟩
              · rw [hg5.gb.block b (by simp; omega) (fun e => hNe.out b e.symm rfl)]
                exact (Below.heap_alloc _ _ _ hbl).trans BX4.out.1
              · have := hg5.size; simp at this; omega)
            have N5 : Hid (∀ q, v5.ownBlock = some q → q ≠ b) := Lib.hid (fun q hq => by
              rcases hg5.own q hq with h | h
              · exact hNe.out q h
              · simp at h; omega)
            clear hown5 hg5 bx0 bx1 cx0 cx1 hbl
            go_wp2_with fail
            go_roundw
            case rel => exact ⟨k2 + 1, P2 ++ [⟨g.path, c.path, sc⟩], by omega, by go_num, O5, HE5, W5, BX5, N5⟩
            case measure => simp [intOf]; omega
        · have hk3 : k2 = cn := by omega
          have HE6 : Hid (P2 ++ candN least (gs.drop (k + 1)) cs = PP) := Lib.hid (by
            have h := hE2.out
            rw [List.drop_of_length_le (by rw [HCN.out]; omega)] at h
            have e : rowN least g [] = [] := rfl
            rw [e, List.append_nil] at h
            rw [h]; exact HE3.out)
          clear hE2 HE3
          go_wp2_with fail
          go_roundw
          case rel => exact ⟨k + 1, P2, by omega, by go_num, hO2, HE6, hW2⟩
          case measure => simp [intOf]; omega
    · have HE6 : Hid (P = PP) := Lib.hid (by
        have h := hE.out
        rw [List.drop_of_length_le (by rw [HGN.out]; omega)] at h
        have e : candN least [] cs = [] := rfl
        rw [e, List.append_nil] at h
        exact h)
      have hk3 : k = gn := by omega
      clear hE
      go_wp2_with fail
      go_ret2
      exact ⟨_, rfl, by rw [← HE6.out]; exact hO.out, hW.out⟩
end Go.Proofs.Ytaajfekolokaoaa
