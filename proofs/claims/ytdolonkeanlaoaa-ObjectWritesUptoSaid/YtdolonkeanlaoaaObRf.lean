/- The walk of the reference's PutTree. -/
import Derived.Test.YtdolonkeanlaoaaObRe
namespace Go.Proofs.Ytdolonkeanlaoaa
open Go.RowKit Go.Lib
attribute [local simp high] id_size id_zero ent_size ent_zero rent_size rent_zero n32_ne n35_ne

/-- A row that is made: its box rb, its list v, its values, each in blocks of its own. -/
structure RowW (wr wx : World) (rb : Nat) (v : Value) (qs : List Five) (ys : List Val) : Prop where
  rb1 : wr.heap.size ≤ rb
  rb2 : rb < wx.heap.size
  below : Below wr.heap.size wr wx
  box : ListAt wx rb v
  own : wx.ownsRow wr.heap.size 82 5 v qs.length (qs.flatMap Five.flat)
  ne : v.ownBlock ≠ some rb
  len : qs.length = ys.length
  each : ∀ (j : Nat) (q : Five) (y : Val), qs[j]? = some q → ys[j]? = some y → ReadsS (fun k => wr.heap.size ≤ k ∧ k < wx.heap.size ∧ k ≠ rb ∧ v.ownBlock ≠ some k) wx 13 q.agg y
theorem RowW.list {wr wx : World} {rb : Nat} {v : Value} {qs : List Five} {ys : List Val} (h : RowW wr wx rb v qs ys) : ListS (fun k => wr.heap.size ≤ k ∧ k < wx.heap.size ∧ k ≠ rb) wx (ReadsS (fun k => wr.heap.size ≤ k ∧ k < wx.heap.size ∧ k ≠ rb) wx 13) v ys :=
  list_own h.own h.len (fun k hk => ⟨(World.ownsRow.lt h.own k hk).1, (World.ownsRow.lt h.own k hk).2, fun e => h.ne (by rw [hk, e])⟩) (fun j q y hq hy => ReadsS.kept (fun k hk => ⟨⟨hk.1, hk.2.1, hk.2.2.1⟩, rfl⟩) 13 _ _ (h.each j q y hq hy))
theorem listAt_set5 {w : World} {b : Nat} {t : TypeId} (h : w.heap[b]? = some (.cells #[.int .i64 0, .int .u64 0, .slice none 0 0, .float .f64 0, .slice none 0 0] t (0, 0))) (v : Value) : ListAt (set5 w b (.int .i64 3) (.int .u64 0) (.slice none 0 0) (.float .f64 0) v) b v := by
  obtain ⟨⟨c0, c1, c2, c3, c4⟩, z0, z1, z2, z3, z4⟩ := five_cells h
  obtain ⟨r0, r1, r2, r3, r4⟩ := set5_cells c0 c1 c2 c3 c4 (.int .i64 3) (.int .u64 0) (.slice none 0 0) (.float .f64 0) v
  exact ⟨r0, r1, r2, r3, r4, by unfold set5; simp [go_sem, z4]⟩
theorem own_two {w : World} {B lb : Nat} {q1 q2 : Five} (hB : B ≤ lb) (h : w.heap[lb]? = some (.cells (q1.flat ++ q2.flat).toArray 82 (0, 0))) : w.ownsRow B 82 5 (.slice (some ⟨lb, 0, none⟩) 2 2) [q1, q2].length ([q1, q2].flatMap Five.flat) :=
  ⟨rfl, Or.inr ⟨lb, 2, _, rfl, hB, h, Nat.le_refl _, by unfold maxLen; omega, rfl, rfl⟩⟩
theorem row_made {wr W : World} {rb lb p1 p2 p3 p4 : Nat} {a1 a2 : Option Addr} {c1 c2 : Nat} {nm X : List UInt8} (hb : Below wr.heap.size wr W) (hbox : W.heap[rb]? = some (.cells #[.int .i64 0, .int .u64 0, .slice none 0 0, .float .f64 0, .slice none 0 0] 82 (0, 0)))
    (hl : W.heap[lb]? = some (.cells (Five.flat ⟨.int .i64 1, .int .u64 (0 : Nat), .slice a1 nm.length c1, .float .f64 (0 : Nat), .slice none 0 0⟩ ++ Five.flat ⟨.int .i64 1, .int .u64 (0 : Nat), .slice a2 X.length c2, .float .f64 (0 : Nat), .slice none 0 0⟩).toArray 82 (0, 0)))
    (hx1 : BytesC (fun q => p1 ≤ q ∧ q < p2) W (.slice a1 nm.length c1) nm) (hx2 : BytesC (fun q => p3 ≤ q ∧ q < p4) W (.slice a2 X.length c2) X) (hn : nm.length ≤ 1048576) (hX : X.length = 32)
    (s1 : wr.heap.size ≤ rb) (s2 : rb < W.heap.size) (s3 : wr.heap.size ≤ lb) (s5 : lb ≠ rb) (s6 : wr.heap.size ≤ p1) (s7 : p2 ≤ W.heap.size) (s8 : rb < p1 ∨ p2 ≤ rb) (s9 : lb < p1 ∨ p2 ≤ lb)
    (t6 : wr.heap.size ≤ p3) (t7 : p4 ≤ W.heap.size) (t8 : rb < p3 ∨ p4 ≤ rb) (t9 : lb < p3 ∨ p4 ≤ lb) :
    RowW wr (set5 W rb (.int .i64 3) (.int .u64 0) (.slice none 0 0) (.float .f64 0) (.slice (some ⟨lb, 0, none⟩) 2 2)) rb (.slice (some ⟨lb, 0, none⟩) 2 2) [⟨.int .i64 1, .int .u64 (0 : Nat), .slice a1 nm.length c1, .float .f64 (0 : Nat), .slice none 0 0⟩, ⟨.int .i64 1, .int .u64 (0 : Nat), .slice a2 X.length c2, .float .f64 (0 : Nat), .slice none 0 0⟩] [textV nm, textV X] := by
  have hk : ∀ q, q ≠ rb → (set5 W rb (.int .i64 3) (.int .u64 0) (.slice none 0 0) (.float .f64 0) (.slice (some ⟨lb, 0, none⟩) 2 2)).heap[q]? = W.heap[q]? := fun q hq => set5_block _ _ _ _ _ _ _ _ hq
  have hz := set5_size W rb (.int .i64 3) (.int .u64 0) (.slice none 0 0) (.float .f64 0) (.slice (some ⟨lb, 0, none⟩) 2 2)
  refine ⟨s1, by rw [hz]; exact s2, ?_, listAt_set5 hbox _, ?_, ?_, rfl, ?_⟩
  · exact ((((hb.setCell (p := ⟨rb, 0, none⟩) s1 _).setCell (p := ⟨rb, 1, none⟩) s1 _).setCell (p := ⟨rb, 2, none⟩) s1 _).setCell (p := ⟨rb, 3, none⟩) s1 _).setCell (p := ⟨rb, 4, none⟩) s1 _
  · exact own_two s3 ((hk lb s5).trans hl)
  · intro e
    have : some lb = some rb := e
    injection this with this
    exact s5 this
  · intro j q y hq hy
    have ow : ∀ k, (Value.slice (some ⟨lb, 0, none⟩) 2 2).ownBlock = some k → k = lb := fun k hk => by
      have : some lb = some k := hk
      injection this with this
      exact this.symm
    match j, hq, hy with
    | 0, hq, hy =>
      injection hq with hq; injection hy with hy; subst hq hy
      exact text_reads 12 (hx1.kept (fun q hq => ⟨⟨by omega, by rw [hz]; omega, by omega, fun e => by have := ow q e; omega⟩, hk q (by omega)⟩)) hn
    | 1, hq, hy =>
      injection hq with hq; injection hy with hy; subst hq hy
      exact text_reads 12 (hx2.kept (fun q hq => ⟨⟨by omega, by rw [hz]; omega, by omega, fun e => by have := ow q e; omega⟩, hk q (by omega)⟩)) (by omega)
theorem RowW.push {wr wx w3 w4 : World} {nq nd rb : Nat} {v v' : Value} {qs : List Five} {ys : List Val} {q : Five} {y : Val} (h : RowW wr wx rb v qs ys) (hs3 : w3.heap.size = wx.heap.size + 1) (hk3 : ∀ k, k < wx.heap.size → w3.heap[k]? = wx.heap[k]?) (hp3 : w3.os = wx.os ∧ w3.tape = wx.tape ∧ w3.output = wx.output)
    (hq : ∀ S w, ReadsS S w 13 q.agg y) (hg : Grew (w3.drewN nq) w4 v v') (hown : w4.ownsRow wr.heap.size 82 5 v' (qs.length + 1) (qs.flatMap Five.flat ++ q.flat)) : RowW wr ((w4.drewN nd).setCell ⟨rb, 4, none⟩ v') rb v' (qs ++ [q]) (ys ++ [y]) := by
  have hs4 : w3.heap.size ≤ w4.heap.size := hg.size
  have hvl : ∀ k, v.ownBlock = some k → wr.heap.size ≤ k ∧ k < wx.heap.size := fun k hk => World.ownsRow.lt h.own k hk
  have hr1 := h.rb1
  have hr2 := h.rb2
  have hb := h.below
  have hbs := hb.size
  have hE : ∀ k, k < wx.heap.size → v.ownBlock ≠ some k → w4.heap[k]? = wx.heap[k]? := fun k hk hn => (hg.gb.block k (by show k < w3.heap.size; omega) (fun e => hn e.symm)).trans (hk3 k hk)
  have hne : v'.ownBlock ≠ some rb := fun e => by
    rcases hg.own rb e with e2 | e2
    · exact h.ne e2
    · have e2 : w3.heap.size ≤ rb := e2
      omega
  have hset : ∀ k, k ≠ rb → ((w4.drewN nd).setCell ⟨rb, 4, none⟩ v').heap[k]? = w4.heap[k]? := fun k hk => Below.heap_setCell _ _ _ _ hk
  have hz : ((w4.drewN nd).setCell ⟨rb, 4, none⟩ v').heap.size = w4.heap.size := by simp
  refine ⟨h.rb1, by rw [hz]; omega, ?_, ?_, ?_, hne, by simp [h.len], ?_⟩
  · have h7 : Below wr.heap.size wr (w3.drewN nq) := (⟨hp3.1.trans hb.os, hp3.2.1.trans hb.tape, hp3.2.2.trans hb.output, by omega, fun k hk => (hk3 k (by omega)).trans (hb.block k hk)⟩ : Below wr.heap.size wr w3).trans (below_drewN _ _ _)
    exact ((h7.grown hg.gb (by show wr.heap.size ≤ w3.heap.size; omega) (fun j hj => (hvl j hj).1)).trans (below_drewN _ _ _)).setCell (p := ⟨rb, 4, none⟩) (by simp; omega) _
  · exact ListAt.set ((h.box.kept (hE rb hr2 h.ne)).kept (w' := w4.drewN nd) rfl) v'
  · have e : (qs ++ [q]).flatMap Five.flat = qs.flatMap Five.flat ++ q.flat := by simp
    rw [e, List.length_append]
    exact row_kept hown (fun k hk => hset k (fun e => hne (by rw [hk, e])))
  · intro j p z hp hz2
    by_cases hj : j < qs.length
    · rw [List.getElem?_append_left hj] at hp
      rw [List.getElem?_append_left (by rw [← h.len]; exact hj)] at hz2
      refine ReadsS.kept (fun k hk => ?_) 13 _ _ (h.each j p z hp hz2)
      obtain ⟨k1, k2, k3, k4⟩ := hk
      refine ⟨⟨k1, by rw [hz]; omega, k3, fun e => ?_⟩, (hset k k3).trans (hE k k2 k4)⟩
      rcases hg.own k e with e2 | e2
      · exact k4 e2
      · have e2 : w3.heap.size ≤ k := e2
        omega
    · have hj2 : j = qs.length := by
        have := (List.getElem?_eq_some_iff.1 hp).1
        simp at this; omega
      subst hj2
      rw [List.getElem?_append_right (Nat.le_refl _), Nat.sub_self] at hp
      rw [h.len, List.getElem?_append_right (Nat.le_refl _), Nat.sub_self] at hz2
      simp at hp hz2
      subst hp hz2
      exact hq _ _
set_option maxRecDepth 100000 in
set_option maxHeartbeats 8000000 in
theorem dptree_any (S : Nat → Prop) (v : Value) (l : List EntN) (w : World) (hS : ∀ k, S k → k < w.heap.size) (hv : EntsC S w v l) (hl : l.length ≤ 1048576) (hid : ∀ e ∈ l, e.name.length ≤ 1048576 ∧ e.id.length = 32 ∧ e.stamp < 18446744073709551616) :
    Calls Try.prog 12 #[v] w (REncAnswers w (putTreeR l)) := by
  have hst := run_storeF
  obtain ⟨i0, hi, hz0, hz1, hz2q⟩ := info_parts Try.info82
  obtain ⟨la, lc, rfl⟩ := RowsC.shape hv
  have HO := Lib.hid (dordered_any S _ l w hS hv (fun e he => by have := (hid e he).1; omega) hl)
  have HV := Lib.hid (fun (W : World) (hb : Below w.heap.size w W) => RowsC.kept ent_keeps hv (S' := S) (w' := W) (fun k hk => ⟨hk, hb.block k (hS k hk)⟩))
  have HSS := Lib.hid hS
  have HID := Lib.hid hid
  have HP : Hid (putTreeR l = if (if 1024 < l.length then (2 : Int) else orderE l) ≠ 0 then .error (if 1024 < l.length then (2 : Int) else orderE l) else encR (recV 3 [rowV (l.map entV)])) := Lib.hid (by
    unfold putTreeR
    by_cases h : 1024 < l.length
    · simp [h]
    · simp only [h, if_false]; rfl)
  rw [HP.out]
  generalize (if 1024 < l.length then (2 : Int) else orderE l) = oe at *
  clear hv hS hid
  by_cases h0 : oe = 0
  · rw [if_neg (by simp [h0])]
    subst h0
    go_enter Try.func12, Try.ntmps12
    go_wp2_with fail
    refine HO.out.mono ?_
    rintro e w1 ⟨rfl, hb1⟩
    have HB1 := Lib.hid hb1
    clear hb1
    have L0 : Hid (ListAt (w1.alloc (.cells #[.int .i64 3, .int .u64 0, .slice none 0 0, .float .f64 0, .slice none 0 0] 82)) w1.heap.size (.slice none 0 0)) := Lib.hid (ListAt.new w1)
    have B0 : Hid (Below w1.heap.size w1 (w1.alloc (.cells #[.int .i64 3, .int .u64 0, .slice none 0 0, .float .f64 0, .slice none 0 0] 82))) := Lib.hid ((Below.refl _ _).alloc (Nat.le_refl _) _)
    have Z0 : Hid (w1.heap.size + 1 ≤ (w1.alloc (.cells #[.int .i64 3, .int .u64 0, .slice none 0 0, .float .f64 0, .slice none 0 0] 82)).heap.size) := Lib.hid (by simp)
    go_wp2_with fail
    generalize w1.alloc (.cells #[.int .i64 3, .int .u64 0, .slice none 0 0, .float .f64 0, .slice none 0 0] 82) = w2 at *
    go_loopw [6] (fun i wr => ∃ (k : Nat) (qs : List Five) (v : Value), k ≤ l.length ∧ i = .int .i64 (k : Int) ∧ Hid (qs.length = k) ∧ Hid (Rows5 (w1.heap.size + 1) wr 14 v qs ((l.map entV).take k)) ∧ Hid (ListAt wr w1.heap.size v) ∧ Hid (Below w1.heap.size w1 wr) ∧ Hid (w1.heap.size + 1 ≤ wr.heap.size)) (fun i _ => l.length - (intOf i).toNat)
    case atStart => exact ⟨0, [], _, Nat.zero_le _, rfl, Lib.hid rfl, Lib.hid (Rows5.nil _ _ _), L0, B0, Z0⟩
    case round =>
      obtain ⟨k, qs, v, hk, rfl, hQ, hR, hLA, hBW, hZW⟩ := hrel
      have hbl := hZW.out
      have HBW0 : Hid (Below w.heap.size w wr) := Lib.hid (HB1.out.trans (hBW.out.mono HB1.out.size))
      by_cases hlt : k < l.length
      · obtain ⟨g, o, rfl, hSg, _, hc2, hat⟩ := EntsC.at (HV.out wr HBW0.out) (by omega)
        have hg : g < wr.heap.size := Nat.lt_of_lt_of_le (HSS.out g hSg) HBW0.out.size
        have HTK : Hid ((l.map entV).take (k + 1) = (l.map entV).take k ++ [entV (l.getD k noEnt)]) := Lib.hid (by
          rw [List.take_succ_eq_append_getElem (by simpa using hlt)]
          simp [List.getD, hlt])
        have hfi := HID.out _ (getD_mem (d := noEnt) hlt)
        have hck := hat k hlt
        clear hat
        generalize l.getD k noEnt = f at *
        have HC8 : Hid (∀ W : World, Below wr.heap.size wr W → W.cell? ⟨g, o + k * n35, none⟩ = some (.string ⟨f.name.toArray⟩) ∧ W.cell? ⟨g, o + k * n35 + 1, none⟩ = some (.bool f.folder) ∧ (loadCellsFrom ⟨g, o + k * n35 + 2, none⟩ 0 n32 #[]).run Try.prog W = .ok (bv f.id).toArray W ∧ W.cell? ⟨g, o + k * n35 + 34, none⟩ = some (.float .f64 f.stamp)) := Lib.hid (fun W hW => by
          have hc : ∀ j, j < 35 → W.cell? ⟨g, o + k * n35 + j, none⟩ = some (entF f j) := fun j hj => (World.cell?_of_block (w := wr) (hW.block g hg)).trans (hck j hj)
          refine ⟨hc 0 (by omega), hc 1 (by omega), ?_, hc 34 (by omega)⟩
          rw [← ent_id hfi.2.1]
          exact load_row W g (o + k * n35 + 2) n32 (fun j => entF f (2 + j)) (fun j hj => by rw [Nat.add_assoc]; exact hc (2 + j) (by unfold n32 at hj; omega)))
        clear hck
        obtain ⟨nm, fo, X, st⟩ := f
        simp only at HC8 hfi
        have HNM : Hid (nm.length ≤ 1048576) := Lib.hid hfi.1
        have HXL : Hid (X.length = 32) := Lib.hid hfi.2.1
        have HST : Hid (st < 18446744073709551616) := Lib.hid hfi.2.2
        have zx : (bv X).length = n32 := by rw [bv_len, hfi.2.1]; rfl
        have HBc : Hid (Below wr.heap.size wr wr.drew) := Lib.hid (drewn _ wr 1)
        obtain ⟨ra, rc, rfl⟩ : ∃ ra rc, v = .slice ra k rc := by
          have := row_shape_any hR.out.own
          rw [hQ.out] at this
          exact this
        have HVL : Hid (∀ j, (Value.slice ra k rc).ownBlock = some j → w1.heap.size + 1 ≤ j ∧ j < wr.heap.size) := Lib.hid (fun j hj => World.ownsRow.lt hR.out.own j hj)
        have HOWR : Hid (wr.ownsRow (w1.heap.size + 1) 82 5 (.slice ra k rc) k (qs.flatMap Five.flat)) := Lib.hid (by have := hR.out.own; rw [hQ.out] at this; exact this)
        clear hfi
        go_upto_region 8 with fail
        go_cut [7] (fun s7 wx => ∃ (rb : Nat) (va : Option Addr) (vc : Nat) (q1 q2 : Five), s7 = .pointer (some ⟨rb, 0, none⟩) ∧ Hid (RowW wr wx rb (.slice va 2 vc) [q1, q2] [textV nm, textV X]))
        case first =>
          refine wp_region_held_drew (S := (fun W => W.cell? ⟨g, o + k * n35, none⟩ = some (.string ⟨nm.toArray⟩) ∧ W.cell? ⟨g, o + k * n35 + 1, none⟩ = some (.bool fo) ∧ (loadCellsFrom ⟨g, o + k * n35 + 2, none⟩ 0 n32 #[]).run Try.prog W = .ok (bv X).toArray W ∧ W.cell? ⟨g, o + k * n35 + 34, none⟩ = some (.float .f64 st))) (by kernel_rfl) (by exact HC8.out _ HBc.out) (fun hHeld => ?_)
          refine wpAnyH_take (i := 0) (oi := ⟨_, _, _, _, _, _⟩) (v := ?_) rfl (by kernel_rfl) (by kernel_rfl) (by kernel_rfl) (fun _ _ _ h => h) (Or.inl ⟨by rfl, ?_⟩) (by assumption) ?_
          rotate_left
          · intro w hSw; (try dsimp only at hSw); first | (go_simp; done) | (go_simp; with_reducible rfl)
          try simp only [Act.put, List.setIfInBounds_toArray, List.set_cons_zero, List.set_cons_succ]
          refine wpAnyH_take (i := 1) (oi := ⟨_, _, _, _, _, _⟩) (v := ?_) rfl (by kernel_rfl) (by kernel_rfl) (by kernel_rfl) (fun _ _ _ h => h) (Or.inl ⟨by rfl, ?_⟩) (by assumption) ?_
          rotate_left
          · intro w hSw; (try dsimp only at hSw); first | (go_simp; done) | (go_simp; with_reducible rfl)
          try simp only [Act.put, List.setIfInBounds_toArray, List.set_cons_zero, List.set_cons_succ]
          refine wpAnyH_take (i := 2) (oi := ⟨_, _, _, _, _, _⟩) (v := ?_) rfl (by kernel_rfl) (by kernel_rfl) (by kernel_rfl) (fun _ _ _ h => h) (Or.inl ⟨by rfl, ?_⟩) (by assumption) ?_
          rotate_left
          · intro w hSw; (try dsimp only at hSw); first | (go_simp; done) | (go_simp; with_reducible rfl)
          try simp only [Act.put, List.setIfInBounds_toArray, List.set_cons_zero, List.set_cons_succ]
          refine wpAnyH_take (i := 3) (oi := ⟨_, _, _, _, _, _⟩) (v := ?_) rfl (by kernel_rfl) (by kernel_rfl) (by kernel_rfl) (fun _ _ _ h => h) (Or.inl ⟨by rfl, ?_⟩) (by assumption) ?_
          rotate_left
          · intro w hSw; (try dsimp only at hSw); first | (go_simp; done) | (go_simp; with_reducible rfl)
          try simp only [Act.put, List.setIfInBounds_toArray, List.set_cons_zero, List.set_cons_succ]
          refine wpAnyH_take (i := 4) (oi := ⟨_, _, _, _, _, _⟩) (v := ?_) rfl (by kernel_rfl) (by kernel_rfl) (by kernel_rfl) (fun _ _ _ h => h) (Or.inl ⟨by rfl, ?_⟩) (by assumption) ?_
          rotate_left
          · intro w hSw; (try dsimp only at hSw); first | (go_simp; done) | (go_simp; with_reducible rfl)
          try simp only [Act.put, List.setIfInBounds_toArray, List.set_cons_zero, List.set_cons_succ]
          refine wpAnyH_take (i := 6) (oi := ⟨_, _, _, _, _, _⟩) (v := ?_) rfl (by kernel_rfl) (by kernel_rfl) (by kernel_rfl) (fun _ _ _ h => h) (Or.inl ⟨by rfl, ?_⟩) (by assumption) ?_
          rotate_left
          · intro w hSw; (try dsimp only at hSw); first | (go_simp; done) | (go_simp; with_reducible rfl)
          try simp only [Act.put, List.setIfInBounds_toArray, List.set_cons_zero, List.set_cons_succ]
          refine wpAnyH_take (i := 7) (oi := ⟨_, _, _, _, _, _⟩) (v := ?_) rfl (by kernel_rfl) (by kernel_rfl) (by kernel_rfl) (fun _ _ _ h => h) (Or.inl ⟨by rfl, ?_⟩) (by assumption) ?_
          rotate_left
          · intro w hSw; (try dsimp only at hSw); first | (go_simp; done) | (go_simp; with_reducible rfl)
          try simp only [Act.put, List.setIfInBounds_toArray, List.set_cons_zero, List.set_cons_succ]
          refine wpAnyH_take (i := 8) (oi := ⟨_, _, _, _, _, _⟩) (v := ?_) rfl (by kernel_rfl) (by kernel_rfl) (by kernel_rfl) (fun _ _ _ h => h) (Or.inl ⟨by rfl, ?_⟩) (by assumption) ?_
          rotate_left
          · intro w hSw; (try dsimp only at hSw); first | (go_simp; done) | (go_simp; with_reducible rfl)
          try simp only [Act.put, List.setIfInBounds_toArray, List.set_cons_zero, List.set_cons_succ]
          refine wpAnyH_take (i := 9) (oi := ⟨_, _, _, _, _, _⟩) (v := ?_) rfl (by kernel_rfl) (by kernel_rfl) (by kernel_rfl) (fun _ _ _ h => h) (Or.inl ⟨by rfl, ?_⟩) (by assumption) ?_
          rotate_left
          · intro w hSw; (try dsimp only at hSw); first | (go_simp; done) | (go_simp; with_reducible rfl)
          try simp only [Act.put, List.setIfInBounds_toArray, List.set_cons_zero, List.set_cons_succ]
          refine wpAnyH_take (i := 10) (oi := ⟨_, _, _, _, _, _⟩) (v := ?_) rfl (by kernel_rfl) (by kernel_rfl) (by kernel_rfl) (fun _ _ _ h => h) (Or.inl ⟨by rfl, ?_⟩) (by assumption) ?_
          rotate_left
          · intro w hSw; (try dsimp only at hSw); first | (go_simp; done) | (go_simp; with_reducible rfl)
          try simp only [Act.put, List.setIfInBounds_toArray, List.set_cons_zero, List.set_cons_succ]
          refine wpAnyH_ready (rs := [5, 14]) (by kernel_rfl) (by simp) ?_
          refine AllReadyH.cons (o := ⟨_, _, _, _, _, _⟩) rfl (fun K hK => ?_) (AllReadyH.cons (o := ⟨_, _, _, _, _, _⟩) rfl (fun K hK => ?_) AllReadyH.nil)
          · go_simp
            refine (dbytes_any nm wr.drew HNM.out).mono ?_
            rintro e y1 ⟨v1, rfl, hx1, hb1⟩
            obtain ⟨a1, c1, rfl⟩ := hx1.shape
            have HX1 : Hid (BytesC (fun q => wr.heap.size ≤ q ∧ q < y1.heap.size) y1 (.slice a1 nm.length c1) nm) := Lib.hid hx1
            have HBn : Hid (Below wr.heap.size wr.drew y1) := Lib.hid hb1
            have hs1 : wr.heap.size ≤ y1.heap.size := hb1.size
            clear hx1 hb1
            have HBc : Hid (Below wr.heap.size wr y1) := Lib.hid (HBc.out.trans (HBn.out.mono HBc.out.size))
            try go_wp2_with fail
            refine hK.out _ _ (by exact HC8.out _ HBc.out) (fun hHeld => ?_)
            clear hK K
            try simp only [Act.put, List.setIfInBounds_toArray, List.set_cons_zero, List.set_cons_succ]
            refine wpAnyH_ready (rs := [11, 14]) (by kernel_rfl) (by simp) ?_
            refine AllReadyH.cons (o := ⟨_, _, _, _, _, _⟩) rfl (fun K hK => ?_) (AllReadyH.cons (o := ⟨_, _, _, _, _, _⟩) rfl (fun K hK => ?_) AllReadyH.nil)
            · go_simp
              refine (dname_any X y1 HXL.out).mono ?_
              rintro e y2 ⟨v2, rfl, hx2, hb2⟩
              obtain ⟨a2, c2, rfl⟩ := hx2.shape
              have HX2 : Hid (BytesC (fun q => y1.heap.size ≤ q ∧ q < y2.heap.size) y2 (.slice a2 X.length c2) X) := Lib.hid hx2
              have HBn : Hid (Below y1.heap.size y1 y2) := Lib.hid hb2
              have hs2 : y1.heap.size ≤ y2.heap.size := hb2.size
              clear hx2 hb2
              have HX1 := Lib.hid (HX1.out.kept (S' := fun q => wr.heap.size ≤ q ∧ q < y1.heap.size) (w' := y2) (fun q hq => ⟨hq, HBn.out.block q (by have := hq.2; omega)⟩))
              have HBc : Hid (Below wr.heap.size wr y2) := Lib.hid (HBc.out.trans (HBn.out.mono HBc.out.size))
              try go_wp2_with fail
              refine hK.out _ _ (by exact HC8.out _ HBc.out) (fun hHeld => ?_)
              clear hK K
              try simp only [Act.put, List.setIfInBounds_toArray, List.set_cons_zero, List.set_cons_succ]
              refine wpAnyH_ready (rs := [12, 14]) (by kernel_rfl) (by simp) ?_
              refine AllReadyH.cons (o := ⟨_, _, _, _, _, _⟩) rfl (fun K hK => ?_) (AllReadyH.cons (o := ⟨_, _, _, _, _, _⟩) rfl (fun K hK => ?_) AllReadyH.nil)
              · go_simp
                refine any_stepC (fun y3 hN => ?_)
                have HE : Hid (y3.heap[y2.heap.size]? = some (.cells (Five.flat ⟨.int .i64 1, .int .u64 (0 : Nat), .slice a1 nm.length c1, .float .f64 (0 : Nat), .slice none 0 0⟩ ++ Five.flat ⟨.int .i64 1, .int .u64 (0 : Nat), .slice a2 X.length c2, .float .f64 (0 : Nat), .slice none 0 0⟩).toArray 82 (0, 0))) := Lib.hid (by rw [hN]; exact new_five y2 _ _)
                have HBn : Hid (Below y2.heap.size y2 y3) := Lib.hid (by rw [hN]; first | exact (Below.refl _ y2).alloc (Nat.le_refl _) _ | exact ((Below.refl _ y2).alloc (Nat.le_refl _) _).drew)
                have hs3 : y2.heap.size + 1 ≤ y3.heap.size := by rw [hN]; simp
                clear hN
                have HX1 := Lib.hid (HX1.out.kept (S' := fun q => wr.heap.size ≤ q ∧ q < y1.heap.size) (w' := y3) (fun q hq => ⟨hq, HBn.out.block q (by have := hq.2; omega)⟩))
                have HX2 := Lib.hid (HX2.out.kept (S' := fun q => y1.heap.size ≤ q ∧ q < y2.heap.size) (w' := y3) (fun q hq => ⟨hq, HBn.out.block q (by have := hq.2; omega)⟩))
                have HBc : Hid (Below wr.heap.size wr y3) := Lib.hid (HBc.out.trans (HBn.out.mono HBc.out.size))
                try go_wp2_with fail
                refine hK.out _ _ (by exact HC8.out _ HBc.out) (fun hHeld => ?_)
                clear hK K
                try simp only [Act.put, List.setIfInBounds_toArray, List.set_cons_zero, List.set_cons_succ]
                refine wpAnyH_take (i := 13) (oi := ⟨_, _, _, _, _, _⟩) (v := ?_) rfl (by kernel_rfl) (by kernel_rfl) (by kernel_rfl) (fun _ _ _ h => h) (Or.inl ⟨by rfl, ?_⟩) (by assumption) ?_
                rotate_left
                · intro w hSw; (try dsimp only at hSw); first | (go_simp; done) | (go_simp; with_reducible rfl)
                try simp only [Act.put, List.setIfInBounds_toArray, List.set_cons_zero, List.set_cons_succ]
                refine wpAnyH_ready (rs := [14]) (by kernel_rfl) (by simp) ?_
                refine AllReadyH.cons (o := ⟨_, _, _, _, _, _⟩) rfl (fun K hK => ?_) AllReadyH.nil
                go_simp
                refine any_stepC (fun y4 hN => ?_)
                have HA : Hid (y4.heap[y3.heap.size]? = some (.cells #[.int .i64 0, .int .u64 0, .slice none 0 0, .float .f64 0, .slice none 0 0] 82 (0, 0))) := Lib.hid (by rw [hN]; exact new_five y3 _ _)
                have HBn : Hid (Below y3.heap.size y3 y4) := Lib.hid (by rw [hN]; first | exact (Below.refl _ y3).alloc (Nat.le_refl _) _ | exact ((Below.refl _ y3).alloc (Nat.le_refl _) _).drew)
                have hs4 : y3.heap.size + 1 ≤ y4.heap.size := by rw [hN]; simp
                clear hN
                have HX1 := Lib.hid (HX1.out.kept (S' := fun q => wr.heap.size ≤ q ∧ q < y1.heap.size) (w' := y4) (fun q hq => ⟨hq, HBn.out.block q (by have := hq.2; omega)⟩))
                have HX2 := Lib.hid (HX2.out.kept (S' := fun q => y1.heap.size ≤ q ∧ q < y2.heap.size) (w' := y4) (fun q hq => ⟨hq, HBn.out.block q (by have := hq.2; omega)⟩))
                have HE : Hid (y4.heap[y2.heap.size]? = some (.cells (Five.flat ⟨.int .i64 1, .int .u64 (0 : Nat), .slice a1 nm.length c1, .float .f64 (0 : Nat), .slice none 0 0⟩ ++ Five.flat ⟨.int .i64 1, .int .u64 (0 : Nat), .slice a2 X.length c2, .float .f64 (0 : Nat), .slice none 0 0⟩).toArray 82 (0, 0))) := Lib.hid ((HBn.out.block _ (by omega)).trans HE.out)
                have HBc : Hid (Below wr.heap.size wr y4) := Lib.hid (HBc.out.trans (HBn.out.mono HBc.out.size))
                try go_wp2_with fail
                refine hK.out _ _ (by exact HC8.out _ HBc.out) (fun hHeld => ?_)
                clear hK K
                try simp only [Act.put, List.setIfInBounds_toArray, List.set_cons_zero, List.set_cons_succ]
                refine wpAnyH_ready (rs := [15]) (by kernel_rfl) (by simp) ?_
                refine AllReadyH.cons (o := ⟨_, _, _, _, _, _⟩) rfl (fun K hK => ?_) AllReadyH.nil
                obtain ⟨⟨g0, g1, g2, g3, g4⟩, z0, z1, z2, z3, z4⟩ := five_cells HA.out
                go_simp
                refine any_stepC (fun y5 hN => ?_)
                have HROW : Hid (RowW wr y5 (y3.heap.size) (.slice (some ⟨y2.heap.size, 0, none⟩) 2 2) [⟨.int .i64 1, .int .u64 (0 : Nat), .slice a1 nm.length c1, .float .f64 (0 : Nat), .slice none 0 0⟩, ⟨.int .i64 1, .int .u64 (0 : Nat), .slice a2 X.length c2, .float .f64 (0 : Nat), .slice none 0 0⟩] [textV nm, textV X]) := Lib.hid (by
  rw [hN]
  exact row_made (p1 := wr.heap.size) (p2 := y1.heap.size) (p3 := y1.heap.size) (p4 := y2.heap.size) HBc.out HA.out HE.out HX1.out HX2.out HNM.out HXL.out (by have := HBc.out.size; omega) (by omega) (by have := HBc.out.size; omega) (by omega) (by have := HBc.out.size; omega) (by omega) (by omega) (by omega) (by have := HBc.out.size; omega) (by omega) (by omega) (by omega))
                have HBc := Lib.hid HROW.out.below
                clear hN g0 g1 g2 g3 g4 z0 z1 z2 z3 z4
                refine hK.out _ _ (by exact HC8.out _ HBc.out) (fun hHeld => ?_)
                clear hK K
                try simp only [Act.put, List.setIfInBounds_toArray, List.set_cons_zero, List.set_cons_succ]
                refine wpAnyH_done (by kernel_rfl) ?_ _
                clear hHeld
                go_wp2_with fail
                go_meet
                exact ⟨_, _, _, _, _, rfl, HROW⟩
              · go_simp
                refine any_stepC (fun y3 hN => ?_)
                have HA : Hid (y3.heap[y2.heap.size]? = some (.cells #[.int .i64 0, .int .u64 0, .slice none 0 0, .float .f64 0, .slice none 0 0] 82 (0, 0))) := Lib.hid (by rw [hN]; exact new_five y2 _ _)
                have HBn : Hid (Below y2.heap.size y2 y3) := Lib.hid (by rw [hN]; first | exact (Below.refl _ y2).alloc (Nat.le_refl _) _ | exact ((Below.refl _ y2).alloc (Nat.le_refl _) _).drew)
                have hs3 : y2.heap.size + 1 ≤ y3.heap.size := by rw [hN]; simp
                clear hN
                have HX1 := Lib.hid (HX1.out.kept (S' := fun q => wr.heap.size ≤ q ∧ q < y1.heap.size) (w' := y3) (fun q hq => ⟨hq, HBn.out.block q (by have := hq.2; omega)⟩))
                have HX2 := Lib.hid (HX2.out.kept (S' := fun q => y1.heap.size ≤ q ∧ q < y2.heap.size) (w' := y3) (fun q hq => ⟨hq, HBn.out.block q (by have := hq.2; omega)⟩))
                have HBc : Hid (Below wr.heap.size wr y3) := Lib.hid (HBc.out.trans (HBn.out.mono HBc.out.size))
                try go_wp2_with fail
                refine hK.out _ _ (by exact HC8.out _ HBc.out) (fun hHeld => ?_)
                clear hK K
                try simp only [Act.put, List.setIfInBounds_toArray, List.set_cons_zero, List.set_cons_succ]
                refine wpAnyH_ready (rs := [12]) (by kernel_rfl) (by simp) ?_
                refine AllReadyH.cons (o := ⟨_, _, _, _, _, _⟩) rfl (fun K hK => ?_) AllReadyH.nil
                go_simp
                refine any_stepC (fun y4 hN => ?_)
                have HE : Hid (y4.heap[y3.heap.size]? = some (.cells (Five.flat ⟨.int .i64 1, .int .u64 (0 : Nat), .slice a1 nm.length c1, .float .f64 (0 : Nat), .slice none 0 0⟩ ++ Five.flat ⟨.int .i64 1, .int .u64 (0 : Nat), .slice a2 X.length c2, .float .f64 (0 : Nat), .slice none 0 0⟩).toArray 82 (0, 0))) := Lib.hid (by rw [hN]; exact new_five y3 _ _)
                have HBn : Hid (Below y3.heap.size y3 y4) := Lib.hid (by rw [hN]; first | exact (Below.refl _ y3).alloc (Nat.le_refl _) _ | exact ((Below.refl _ y3).alloc (Nat.le_refl _) _).drew)
                have hs4 : y3.heap.size + 1 ≤ y4.heap.size := by rw [hN]; simp
                clear hN
                have HX1 := Lib.hid (HX1.out.kept (S' := fun q => wr.heap.size ≤ q ∧ q < y1.heap.size) (w' := y4) (fun q hq => ⟨hq, HBn.out.block q (by have := hq.2; omega)⟩))
                have HX2 := Lib.hid (HX2.out.kept (S' := fun q => y1.heap.size ≤ q ∧ q < y2.heap.size) (w' := y4) (fun q hq => ⟨hq, HBn.out.block q (by have := hq.2; omega)⟩))
                have HA : Hid (y4.heap[y2.heap.size]? = some (.cells #[.int .i64 0, .int .u64 0, .slice none 0 0, .float .f64 0, .slice none 0 0] 82 (0, 0))) := Lib.hid ((HBn.out.block _ (by omega)).trans HA.out)
                have HBc : Hid (Below wr.heap.size wr y4) := Lib.hid (HBc.out.trans (HBn.out.mono HBc.out.size))
                try go_wp2_with fail
                refine hK.out _ _ (by exact HC8.out _ HBc.out) (fun hHeld => ?_)
                clear hK K
                try simp only [Act.put, List.setIfInBounds_toArray, List.set_cons_zero, List.set_cons_succ]
                refine wpAnyH_take (i := 13) (oi := ⟨_, _, _, _, _, _⟩) (v := ?_) rfl (by kernel_rfl) (by kernel_rfl) (by kernel_rfl) (fun _ _ _ h => h) (Or.inl ⟨by rfl, ?_⟩) (by assumption) ?_
                rotate_left
                · intro w hSw; (try dsimp only at hSw); first | (go_simp; done) | (go_simp; with_reducible rfl)
                try simp only [Act.put, List.setIfInBounds_toArray, List.set_cons_zero, List.set_cons_succ]
                refine wpAnyH_ready (rs := [15]) (by kernel_rfl) (by simp) ?_
                refine AllReadyH.cons (o := ⟨_, _, _, _, _, _⟩) rfl (fun K hK => ?_) AllReadyH.nil
                obtain ⟨⟨g0, g1, g2, g3, g4⟩, z0, z1, z2, z3, z4⟩ := five_cells HA.out
                go_simp
                refine any_stepC (fun y5 hN => ?_)
                have HROW : Hid (RowW wr y5 (y2.heap.size) (.slice (some ⟨y3.heap.size, 0, none⟩) 2 2) [⟨.int .i64 1, .int .u64 (0 : Nat), .slice a1 nm.length c1, .float .f64 (0 : Nat), .slice none 0 0⟩, ⟨.int .i64 1, .int .u64 (0 : Nat), .slice a2 X.length c2, .float .f64 (0 : Nat), .slice none 0 0⟩] [textV nm, textV X]) := Lib.hid (by
  rw [hN]
  exact row_made (p1 := wr.heap.size) (p2 := y1.heap.size) (p3 := y1.heap.size) (p4 := y2.heap.size) HBc.out HA.out HE.out HX1.out HX2.out HNM.out HXL.out (by have := HBc.out.size; omega) (by omega) (by have := HBc.out.size; omega) (by omega) (by have := HBc.out.size; omega) (by omega) (by omega) (by omega) (by have := HBc.out.size; omega) (by omega) (by omega) (by omega))
                have HBc := Lib.hid HROW.out.below
                clear hN g0 g1 g2 g3 g4 z0 z1 z2 z3 z4
                refine hK.out _ _ (by exact HC8.out _ HBc.out) (fun hHeld => ?_)
                clear hK K
                try simp only [Act.put, List.setIfInBounds_toArray, List.set_cons_zero, List.set_cons_succ]
                refine wpAnyH_done (by kernel_rfl) ?_ _
                clear hHeld
                go_wp2_with fail
                go_meet
                exact ⟨_, _, _, _, _, rfl, HROW⟩
            · go_simp
              refine any_stepC (fun y2 hN => ?_)
              have HA : Hid (y2.heap[y1.heap.size]? = some (.cells #[.int .i64 0, .int .u64 0, .slice none 0 0, .float .f64 0, .slice none 0 0] 82 (0, 0))) := Lib.hid (by rw [hN]; exact new_five y1 _ _)
              have HBn : Hid (Below y1.heap.size y1 y2) := Lib.hid (by rw [hN]; first | exact (Below.refl _ y1).alloc (Nat.le_refl _) _ | exact ((Below.refl _ y1).alloc (Nat.le_refl _) _).drew)
              have hs2 : y1.heap.size + 1 ≤ y2.heap.size := by rw [hN]; simp
              clear hN
              have HX1 := Lib.hid (HX1.out.kept (S' := fun q => wr.heap.size ≤ q ∧ q < y1.heap.size) (w' := y2) (fun q hq => ⟨hq, HBn.out.block q (by have := hq.2; omega)⟩))
              have HBc : Hid (Below wr.heap.size wr y2) := Lib.hid (HBc.out.trans (HBn.out.mono HBc.out.size))
              try go_wp2_with fail
              refine hK.out _ _ (by exact HC8.out _ HBc.out) (fun hHeld => ?_)
              clear hK K
              try simp only [Act.put, List.setIfInBounds_toArray, List.set_cons_zero, List.set_cons_succ]
              refine wpAnyH_ready (rs := [11]) (by kernel_rfl) (by simp) ?_
              refine AllReadyH.cons (o := ⟨_, _, _, _, _, _⟩) rfl (fun K hK => ?_) AllReadyH.nil
              go_simp
              refine (dname_any X y2 HXL.out).mono ?_
              rintro e y3 ⟨v2, rfl, hx2, hb2⟩
              obtain ⟨a2, c2, rfl⟩ := hx2.shape
              have HX2 : Hid (BytesC (fun q => y2.heap.size ≤ q ∧ q < y3.heap.size) y3 (.slice a2 X.length c2) X) := Lib.hid hx2
              have HBn : Hid (Below y2.heap.size y2 y3) := Lib.hid hb2
              have hs3 : y2.heap.size ≤ y3.heap.size := hb2.size
              clear hx2 hb2
              have HX1 := Lib.hid (HX1.out.kept (S' := fun q => wr.heap.size ≤ q ∧ q < y1.heap.size) (w' := y3) (fun q hq => ⟨hq, HBn.out.block q (by have := hq.2; omega)⟩))
              have HA : Hid (y3.heap[y1.heap.size]? = some (.cells #[.int .i64 0, .int .u64 0, .slice none 0 0, .float .f64 0, .slice none 0 0] 82 (0, 0))) := Lib.hid ((HBn.out.block _ (by omega)).trans HA.out)
              have HBc : Hid (Below wr.heap.size wr y3) := Lib.hid (HBc.out.trans (HBn.out.mono HBc.out.size))
              try go_wp2_with fail
              refine hK.out _ _ (by exact HC8.out _ HBc.out) (fun hHeld => ?_)
              clear hK K
              try simp only [Act.put, List.setIfInBounds_toArray, List.set_cons_zero, List.set_cons_succ]
              refine wpAnyH_ready (rs := [12]) (by kernel_rfl) (by simp) ?_
              refine AllReadyH.cons (o := ⟨_, _, _, _, _, _⟩) rfl (fun K hK => ?_) AllReadyH.nil
              go_simp
              refine any_stepC (fun y4 hN => ?_)
              have HE : Hid (y4.heap[y3.heap.size]? = some (.cells (Five.flat ⟨.int .i64 1, .int .u64 (0 : Nat), .slice a1 nm.length c1, .float .f64 (0 : Nat), .slice none 0 0⟩ ++ Five.flat ⟨.int .i64 1, .int .u64 (0 : Nat), .slice a2 X.length c2, .float .f64 (0 : Nat), .slice none 0 0⟩).toArray 82 (0, 0))) := Lib.hid (by rw [hN]; exact new_five y3 _ _)
              have HBn : Hid (Below y3.heap.size y3 y4) := Lib.hid (by rw [hN]; first | exact (Below.refl _ y3).alloc (Nat.le_refl _) _ | exact ((Below.refl _ y3).alloc (Nat.le_refl _) _).drew)
              have hs4 : y3.heap.size + 1 ≤ y4.heap.size := by rw [hN]; simp
              clear hN
              have HX1 := Lib.hid (HX1.out.kept (S' := fun q => wr.heap.size ≤ q ∧ q < y1.heap.size) (w' := y4) (fun q hq => ⟨hq, HBn.out.block q (by have := hq.2; omega)⟩))
              have HX2 := Lib.hid (HX2.out.kept (S' := fun q => y2.heap.size ≤ q ∧ q < y3.heap.size) (w' := y4) (fun q hq => ⟨hq, HBn.out.block q (by have := hq.2; omega)⟩))
              have HA : Hid (y4.heap[y1.heap.size]? = some (.cells #[.int .i64 0, .int .u64 0, .slice none 0 0, .float .f64 0, .slice none 0 0] 82 (0, 0))) := Lib.hid ((HBn.out.block _ (by omega)).trans HA.out)
              have HBc : Hid (Below wr.heap.size wr y4) := Lib.hid (HBc.out.trans (HBn.out.mono HBc.out.size))
              try go_wp2_with fail
              refine hK.out _ _ (by exact HC8.out _ HBc.out) (fun hHeld => ?_)
              clear hK K
              try simp only [Act.put, List.setIfInBounds_toArray, List.set_cons_zero, List.set_cons_succ]
              refine wpAnyH_take (i := 13) (oi := ⟨_, _, _, _, _, _⟩) (v := ?_) rfl (by kernel_rfl) (by kernel_rfl) (by kernel_rfl) (fun _ _ _ h => h) (Or.inl ⟨by rfl, ?_⟩) (by assumption) ?_
              rotate_left
              · intro w hSw; (try dsimp only at hSw); first | (go_simp; done) | (go_simp; with_reducible rfl)
              try simp only [Act.put, List.setIfInBounds_toArray, List.set_cons_zero, List.set_cons_succ]
              refine wpAnyH_ready (rs := [15]) (by kernel_rfl) (by simp) ?_
              refine AllReadyH.cons (o := ⟨_, _, _, _, _, _⟩) rfl (fun K hK => ?_) AllReadyH.nil
              obtain ⟨⟨g0, g1, g2, g3, g4⟩, z0, z1, z2, z3, z4⟩ := five_cells HA.out
              go_simp
              refine any_stepC (fun y5 hN => ?_)
              have HROW : Hid (RowW wr y5 (y1.heap.size) (.slice (some ⟨y3.heap.size, 0, none⟩) 2 2) [⟨.int .i64 1, .int .u64 (0 : Nat), .slice a1 nm.length c1, .float .f64 (0 : Nat), .slice none 0 0⟩, ⟨.int .i64 1, .int .u64 (0 : Nat), .slice a2 X.length c2, .float .f64 (0 : Nat), .slice none 0 0⟩] [textV nm, textV X]) := Lib.hid (by
  rw [hN]
  exact row_made (p1 := wr.heap.size) (p2 := y1.heap.size) (p3 := y2.heap.size) (p4 := y3.heap.size) HBc.out HA.out HE.out HX1.out HX2.out HNM.out HXL.out (by have := HBc.out.size; omega) (by omega) (by have := HBc.out.size; omega) (by omega) (by have := HBc.out.size; omega) (by omega) (by omega) (by omega) (by have := HBc.out.size; omega) (by omega) (by omega) (by omega))
              have HBc := Lib.hid HROW.out.below
              clear hN g0 g1 g2 g3 g4 z0 z1 z2 z3 z4
              refine hK.out _ _ (by exact HC8.out _ HBc.out) (fun hHeld => ?_)
              clear hK K
              try simp only [Act.put, List.setIfInBounds_toArray, List.set_cons_zero, List.set_cons_succ]
              refine wpAnyH_done (by kernel_rfl) ?_ _
              clear hHeld
              go_wp2_with fail
              go_meet
              exact ⟨_, _, _, _, _, rfl, HROW⟩
          · go_simp
            refine any_stepC (fun y1 hN => ?_)
            have HA : Hid (y1.heap[wr.heap.size]? = some (.cells #[.int .i64 0, .int .u64 0, .slice none 0 0, .float .f64 0, .slice none 0 0] 82 (0, 0))) := Lib.hid (by rw [hN]; exact new_five wr.drew _ _)
            have HBn : Hid (Below wr.heap.size wr.drew y1) := Lib.hid (by rw [hN]; first | exact (Below.refl _ wr.drew).alloc (Nat.le_refl _) _ | exact ((Below.refl _ wr.drew).alloc (Nat.le_refl _) _).drew)
            have hs1 : wr.heap.size + 1 ≤ y1.heap.size := by rw [hN]; simp
            clear hN
            have HBc : Hid (Below wr.heap.size wr y1) := Lib.hid (HBc.out.trans (HBn.out.mono HBc.out.size))
            try go_wp2_with fail
            refine hK.out _ _ (by exact HC8.out _ HBc.out) (fun hHeld => ?_)
            clear hK K
            try simp only [Act.put, List.setIfInBounds_toArray, List.set_cons_zero, List.set_cons_succ]
            refine wpAnyH_ready (rs := [5]) (by kernel_rfl) (by simp) ?_
            refine AllReadyH.cons (o := ⟨_, _, _, _, _, _⟩) rfl (fun K hK => ?_) AllReadyH.nil
            go_simp
            refine (dbytes_any nm y1 HNM.out).mono ?_
            rintro e y2 ⟨v1, rfl, hx1, hb1⟩
            obtain ⟨a1, c1, rfl⟩ := hx1.shape
            have HX1 : Hid (BytesC (fun q => y1.heap.size ≤ q ∧ q < y2.heap.size) y2 (.slice a1 nm.length c1) nm) := Lib.hid hx1
            have HBn : Hid (Below y1.heap.size y1 y2) := Lib.hid hb1
            have hs2 : y1.heap.size ≤ y2.heap.size := hb1.size
            clear hx1 hb1
            have HA : Hid (y2.heap[wr.heap.size]? = some (.cells #[.int .i64 0, .int .u64 0, .slice none 0 0, .float .f64 0, .slice none 0 0] 82 (0, 0))) := Lib.hid ((HBn.out.block _ (by omega)).trans HA.out)
            have HBc : Hid (Below wr.heap.size wr y2) := Lib.hid (HBc.out.trans (HBn.out.mono HBc.out.size))
            try go_wp2_with fail
            refine hK.out _ _ (by exact HC8.out _ HBc.out) (fun hHeld => ?_)
            clear hK K
            try simp only [Act.put, List.setIfInBounds_toArray, List.set_cons_zero, List.set_cons_succ]
            refine wpAnyH_ready (rs := [11]) (by kernel_rfl) (by simp) ?_
            refine AllReadyH.cons (o := ⟨_, _, _, _, _, _⟩) rfl (fun K hK => ?_) AllReadyH.nil
            go_simp
            refine (dname_any X y2 HXL.out).mono ?_
            rintro e y3 ⟨v2, rfl, hx2, hb2⟩
            obtain ⟨a2, c2, rfl⟩ := hx2.shape
            have HX2 : Hid (BytesC (fun q => y2.heap.size ≤ q ∧ q < y3.heap.size) y3 (.slice a2 X.length c2) X) := Lib.hid hx2
            have HBn : Hid (Below y2.heap.size y2 y3) := Lib.hid hb2
            have hs3 : y2.heap.size ≤ y3.heap.size := hb2.size
            clear hx2 hb2
            have HX1 := Lib.hid (HX1.out.kept (S' := fun q => y1.heap.size ≤ q ∧ q < y2.heap.size) (w' := y3) (fun q hq => ⟨hq, HBn.out.block q (by have := hq.2; omega)⟩))
            have HA : Hid (y3.heap[wr.heap.size]? = some (.cells #[.int .i64 0, .int .u64 0, .slice none 0 0, .float .f64 0, .slice none 0 0] 82 (0, 0))) := Lib.hid ((HBn.out.block _ (by omega)).trans HA.out)
            have HBc : Hid (Below wr.heap.size wr y3) := Lib.hid (HBc.out.trans (HBn.out.mono HBc.out.size))
            try go_wp2_with fail
            refine hK.out _ _ (by exact HC8.out _ HBc.out) (fun hHeld => ?_)
            clear hK K
            try simp only [Act.put, List.setIfInBounds_toArray, List.set_cons_zero, List.set_cons_succ]
            refine wpAnyH_ready (rs := [12]) (by kernel_rfl) (by simp) ?_
            refine AllReadyH.cons (o := ⟨_, _, _, _, _, _⟩) rfl (fun K hK => ?_) AllReadyH.nil
            go_simp
            refine any_stepC (fun y4 hN => ?_)
            have HE : Hid (y4.heap[y3.heap.size]? = some (.cells (Five.flat ⟨.int .i64 1, .int .u64 (0 : Nat), .slice a1 nm.length c1, .float .f64 (0 : Nat), .slice none 0 0⟩ ++ Five.flat ⟨.int .i64 1, .int .u64 (0 : Nat), .slice a2 X.length c2, .float .f64 (0 : Nat), .slice none 0 0⟩).toArray 82 (0, 0))) := Lib.hid (by rw [hN]; exact new_five y3 _ _)
            have HBn : Hid (Below y3.heap.size y3 y4) := Lib.hid (by rw [hN]; first | exact (Below.refl _ y3).alloc (Nat.le_refl _) _ | exact ((Below.refl _ y3).alloc (Nat.le_refl _) _).drew)
            have hs4 : y3.heap.size + 1 ≤ y4.heap.size := by rw [hN]; simp
            clear hN
            have HX1 := Lib.hid (HX1.out.kept (S' := fun q => y1.heap.size ≤ q ∧ q < y2.heap.size) (w' := y4) (fun q hq => ⟨hq, HBn.out.block q (by have := hq.2; omega)⟩))
            have HX2 := Lib.hid (HX2.out.kept (S' := fun q => y2.heap.size ≤ q ∧ q < y3.heap.size) (w' := y4) (fun q hq => ⟨hq, HBn.out.block q (by have := hq.2; omega)⟩))
            have HA : Hid (y4.heap[wr.heap.size]? = some (.cells #[.int .i64 0, .int .u64 0, .slice none 0 0, .float .f64 0, .slice none 0 0] 82 (0, 0))) := Lib.hid ((HBn.out.block _ (by omega)).trans HA.out)
            have HBc : Hid (Below wr.heap.size wr y4) := Lib.hid (HBc.out.trans (HBn.out.mono HBc.out.size))
            try go_wp2_with fail
            refine hK.out _ _ (by exact HC8.out _ HBc.out) (fun hHeld => ?_)
            clear hK K
            try simp only [Act.put, List.setIfInBounds_toArray, List.set_cons_zero, List.set_cons_succ]
            refine wpAnyH_take (i := 13) (oi := ⟨_, _, _, _, _, _⟩) (v := ?_) rfl (by kernel_rfl) (by kernel_rfl) (by kernel_rfl) (fun _ _ _ h => h) (Or.inl ⟨by rfl, ?_⟩) (by assumption) ?_
            rotate_left
            · intro w hSw; (try dsimp only at hSw); first | (go_simp; done) | (go_simp; with_reducible rfl)
            try simp only [Act.put, List.setIfInBounds_toArray, List.set_cons_zero, List.set_cons_succ]
            refine wpAnyH_ready (rs := [15]) (by kernel_rfl) (by simp) ?_
            refine AllReadyH.cons (o := ⟨_, _, _, _, _, _⟩) rfl (fun K hK => ?_) AllReadyH.nil
            obtain ⟨⟨g0, g1, g2, g3, g4⟩, z0, z1, z2, z3, z4⟩ := five_cells HA.out
            go_simp
            refine any_stepC (fun y5 hN => ?_)
            have HROW : Hid (RowW wr y5 (wr.heap.size) (.slice (some ⟨y3.heap.size, 0, none⟩) 2 2) [⟨.int .i64 1, .int .u64 (0 : Nat), .slice a1 nm.length c1, .float .f64 (0 : Nat), .slice none 0 0⟩, ⟨.int .i64 1, .int .u64 (0 : Nat), .slice a2 X.length c2, .float .f64 (0 : Nat), .slice none 0 0⟩] [textV nm, textV X]) := Lib.hid (by
  rw [hN]
  exact row_made (p1 := y1.heap.size) (p2 := y2.heap.size) (p3 := y2.heap.size) (p4 := y3.heap.size) HBc.out HA.out HE.out HX1.out HX2.out HNM.out HXL.out (by have := HBc.out.size; omega) (by omega) (by have := HBc.out.size; omega) (by omega) (by have := HBc.out.size; omega) (by omega) (by omega) (by omega) (by have := HBc.out.size; omega) (by omega) (by omega) (by omega))
            have HBc := Lib.hid HROW.out.below
            clear hN g0 g1 g2 g3 g4 z0 z1 z2 z3 z4
            refine hK.out _ _ (by exact HC8.out _ HBc.out) (fun hHeld => ?_)
            clear hK K
            try simp only [Act.put, List.setIfInBounds_toArray, List.set_cons_zero, List.set_cons_succ]
            refine wpAnyH_done (by kernel_rfl) ?_ _
            clear hHeld
            go_wp2_with fail
            go_meet
            exact ⟨_, _, _, _, _, rfl, HROW⟩
        case rest =>
          obtain ⟨rb, va, vc, q1, q2, rfl, HROW⟩ := hcut
          obtain ⟨wx, hwx⟩ : ∃ wx, wx = wc := ⟨_, rfl⟩
          subst hwx
          have HOW2 : Hid (wx.ownsRow wr.heap.size 82 5 (Value.slice va 2 vc) 2 ([q1, q2].flatMap Five.flat)) := Lib.hid HROW.out.own
          have HQ2L : Hid ([q1, q2].length = 2) := Lib.hid rfl
          generalize [q1, q2] = qs2 at *
          obtain ⟨k0, k1, _, k34⟩ := HC8.out wx HROW.out.below
          have HRBB := Lib.hid HROW.out.rb1
          cases fo with
          | true =>
            clear k0 k34
            have HB2 : Hid (Below wr.heap.size wr wx) := Lib.hid HROW.out.below
            have hsz2 := HB2.out.size
            have HY : Hid (ReadsS (fun q => wr.heap.size ≤ q ∧ q < wx.heap.size) wx 14 (Five.agg ⟨.int .i64 3, .int .u64 (0 : Nat), .slice none 0 0, .float .f64 (0 : Nat), (Value.slice va 2 vc)⟩) (entV ⟨nm, true, X, st⟩)) := Lib.hid (row_reads (n := 13) (HROW.out.list.kept (by simp) (fun q hq => ⟨⟨hq.1, hq.2.1⟩, rfl⟩)) (by simp))
            obtain ⟨r0, r1, r2, r3, r4, _⟩ := HROW.out.box
            have hls2 : ListAt wx w1.heap.size (.slice ra k rc) := hLA.out.kept (HB2.out.block _ (by omega))
            have hg4c := hls2.c4
            have HL2 := Lib.hid hls2
            have HVB : Hid (∀ j, (Value.slice ra k rc).ownBlock = some j → w1.heap.size + 1 ≤ j ∧ j < wr.heap.size) := HVL
            have hownr : wx.ownsRow (w1.heap.size + 1) 82 5 (.slice ra k rc) k (qs.flatMap Five.flat) := row_kept HOWR.out (fun q hq => HB2.out.block q (HVB.out q hq).2)
            have HS1 : Hid (w1.heap.size + 1 ≤ wx.heap.size) := Lib.hid (by omega)
            clear hls2
            go_wp2_with (at_builtin; refine wpList_own_src _ rfl _ _ 80 80 rfl (w1.heap.size + 1) 82 i0 _ 5 72 Try.underlying80 hi hz0 hz1 hz2q rfl (by decide) _ _ _ rfl (hownr.alloc _) _ 1 _ rfl (five_src _ 3 0 none _ 0 0 _ _ 0) ?c3 ?c4 ?c5 ?_)
            case c3 => unfold maxLen; omega
            case c4 => omega
            case c5 => have := HS1.out; simp; omega
            intro v4 w4 hown4 hg4
            have hs4 := hg4.size
            simp at hs4
            have hl4 : ListAt w4 w1.heap.size (.slice ra k rc) := (HL2.out.kept (Below.heap_alloc _ _ _ (by have := HS1.out; omega))).kept (hg4.gb.block _ (by have := HS1.out; simp; omega) (fun e => by have := HVB.out _ e.symm; omega))
            have hb4 : Below w1.heap.size w1 w4 := Below.grown ((hBW.out.trans (HB2.out.mono (by omega))).alloc (by have := HS1.out; omega) _) hg4.gb (by have := HS1.out; simp; omega) (fun j hj => by have := HVB.out j hj; omega)
            have hr4 := (Rows5.grow (q := ⟨_, _, _, _, _⟩) hR.out (by omega) hsz2 (fun q _ hq => HB2.out.block q hq) HY.out hg4 (by rw [hQ.out]; exact hown4)).set (b := w1.heap.size) (by omega) v4
            obtain ⟨v4a, v4c, rfl⟩ := own5_slice hown4
            have hc4 := hl4.c4
            have hz4 := hl4.z4
            have HR4 := Lib.hid hr4
            have HL4 := Lib.hid (hl4.set (.slice v4a (k + 1) v4c))
            have HB4 := Lib.hid (hb4.setCell (p := ⟨w1.heap.size, 4, none⟩) (by simp) (.slice v4a (k + 1) v4c))
            have HS4 : Hid (w1.heap.size + 1 ≤ w4.heap.size) := Lib.hid (by have := HS1.out; omega)
            clear hownr hown4 hg4 hr4 hl4 hb4 hg4c r0 r1 r2 r3 r4
            go_wp2_with fail
            go_roundw
            case rel => exact ⟨k + 1, qs ++ [⟨.int .i64 3, .int .u64 (0 : Nat), .slice none 0 0, .float .f64 (0 : Nat), (Value.slice va 2 vc)⟩], _, by omega, by go_num, Lib.hid (by have := hQ.out; simp; omega), Lib.hid (by rw [HTK.out]; exact HR4.out), HL4, HB4, Lib.hid (by have := HS4.out; simpa using this)⟩
            case measure => simp [intOf]; omega
          | false =>
            have HS10 : Hid (∀ W : World, (∀ q, q < wx.heap.size → (Value.slice va 2 vc).ownBlock ≠ some q → W.heap[q]? = wx.heap[q]?) → W.cell? ⟨rb, 4, none⟩ = some (Value.slice va 2 vc) ∧ W.cell? ⟨g, o + k * n35 + 34, none⟩ = some (.float .f64 st)) := Lib.hid (fun W hW => ⟨(HROW.out.box.kept (hW rb HROW.out.rb2 HROW.out.ne)).c4, (World.cell?_of_block (w := wx) (hW g (by have := HROW.out.below.size; omega) (fun e => by have := (World.ownsRow.lt HROW.out.own g e).1; omega))).trans k34⟩)
            clear k0 k34
            go_upto_region 10 with fail
            refine wp_region_D 11 (fun W => W.cell? ⟨rb, 4, none⟩ = some (.slice va 2 vc) ∧ W.cell? ⟨g, o + k * n35 + 34, none⟩ = some (.float .f64 st)) (by kernel_rfl) (by kernel_rfl) (by kernel_rfl) ?_
            have hSd := HS10.out wx.drew (fun q _ _ => rfl)
            refine wpAnyD_take (i := 0) (oi := ⟨_, _, _, _, _, _⟩) (v := ?_) rfl (by kernel_rfl) (by kernel_rfl) (by kernel_rfl) (by kernel_rfl) (fun _ _ _ h => h) (fun _ _ h => h) (Or.inl (Or.inl ⟨by rfl, ?_⟩)) hSd ?_
            rotate_left
            · intro W hSw; (try dsimp only at hSw); first | (go_simp; done) | (go_simp; with_reducible rfl)
            try simp only [Act.put, List.setIfInBounds_toArray, List.set_cons_zero, List.set_cons_succ]
            refine wpAnyD_take (i := 1) (oi := ⟨_, _, _, _, _, _⟩) (v := ?_) rfl (by kernel_rfl) (by kernel_rfl) (by kernel_rfl) (by kernel_rfl) (fun _ _ _ h => h) (fun _ _ h => h) (Or.inl (Or.inl ⟨by rfl, ?_⟩)) hSd ?_
            rotate_left
            · intro W hSw; (try dsimp only at hSw); first | (go_simp; done) | (go_simp; with_reducible rfl)
            try simp only [Act.put, List.setIfInBounds_toArray, List.set_cons_zero, List.set_cons_succ]
            refine wpAnyD_take (i := 2) (oi := ⟨_, _, _, _, _, _⟩) (v := ?_) rfl (by kernel_rfl) (by kernel_rfl) (by kernel_rfl) (by kernel_rfl) (fun _ _ _ h => h) (fun _ _ h => h) (Or.inl (Or.inl ⟨by rfl, ?_⟩)) hSd ?_
            rotate_left
            · intro W hSw; (try dsimp only at hSw); first | (go_simp; done) | (go_simp; with_reducible rfl)
            try simp only [Act.put, List.setIfInBounds_toArray, List.set_cons_zero, List.set_cons_succ]
            refine wpAnyD_take (i := 3) (oi := ⟨_, _, _, _, _, _⟩) (v := ?_) rfl (by kernel_rfl) (by kernel_rfl) (by kernel_rfl) (by kernel_rfl) (fun _ _ _ h => h) (fun _ _ h => h) (Or.inl (Or.inl ⟨by rfl, ?_⟩)) hSd ?_
            rotate_left
            · intro W hSw; (try dsimp only at hSw); first | (go_simp; done) | (go_simp; with_reducible rfl)
            try simp only [Act.put, List.setIfInBounds_toArray, List.set_cons_zero, List.set_cons_succ]
            refine wpAnyD_take (i := 4) (oi := ⟨_, _, _, _, _, _⟩) (v := ?_) rfl (by kernel_rfl) (by kernel_rfl) (by kernel_rfl) (by kernel_rfl) (fun _ _ _ h => h) (fun _ _ h => h) (Or.inl (Or.inl ⟨by rfl, ?_⟩)) hSd ?_
            rotate_left
            · intro W hSw; (try dsimp only at hSw); first | (go_simp; done) | (go_simp; with_reducible rfl)
            try simp only [Act.put, List.setIfInBounds_toArray, List.set_cons_zero, List.set_cons_succ]
            refine wpAnyD_take (i := 5) (oi := ⟨_, _, _, _, _, _⟩) (v := ?_) rfl (by kernel_rfl) (by kernel_rfl) (by kernel_rfl) (by kernel_rfl) (fun _ _ _ h => h) (fun _ _ h => h) (Or.inl (Or.inl ⟨by rfl, ?_⟩)) hSd ?_
            rotate_left
            · intro W hSw; (try dsimp only at hSw); first | (go_simp; done) | (go_simp; with_reducible rfl)
            try simp only [Act.put, List.setIfInBounds_toArray, List.set_cons_zero, List.set_cons_succ]
            refine wpAnyD_take (i := 6) (oi := ⟨_, _, _, _, _, _⟩) (v := ?_) rfl (by kernel_rfl) (by kernel_rfl) (by kernel_rfl) (by kernel_rfl) (fun _ _ _ h => h) (fun _ _ h => h) (Or.inl (Or.inl ⟨by rfl, ?_⟩)) hSd ?_
            rotate_left
            · intro W hSw; (try dsimp only at hSw); first | (go_simp; done) | (go_simp; with_reducible rfl)
            try simp only [Act.put, List.setIfInBounds_toArray, List.set_cons_zero, List.set_cons_succ]
            refine wpAnyD_take (i := 7) (oi := ⟨_, _, _, _, _, _⟩) (v := ?_) rfl (by kernel_rfl) (by kernel_rfl) (by kernel_rfl) (by kernel_rfl) (fun _ _ _ h => h) (fun _ _ h => h) (Or.inl (Or.inl ⟨by rfl, ?_⟩)) hSd ?_
            rotate_left
            · intro W hSw; (try dsimp only at hSw); first | (go_simp; done) | (go_simp; with_reducible rfl)
            try simp only [Act.put, List.setIfInBounds_toArray, List.set_cons_zero, List.set_cons_succ]
            clear hSd
            refine wpAnyD_one (i := 8) (o := ⟨_, _, _, _, _, _⟩) (by kernel_rfl) (by decide) rfl (fun nq K hK0 => ?_)
            have hK := Lib.hid hK0
            clear hK0
            go_simp
            refine any_stepC (fun w7 hN => ?_)
            have hc7 : w7.heap.size = wx.heap.size + 1 ∧ w7.heap[wx.heap.size]? = some (.cells #[.int .i64 2, .int .u64 0, .slice none 0 0, .float .f64 st, .slice none 0 0] 82 (0, 0)) ∧ ∀ q, q < wx.heap.size → w7.heap[q]? = wx.heap[q]? := by rw [hN]; exact ⟨by simp, new_five _ _ _, fun q hq => Below.heap_alloc _ _ _ hq⟩
            have HP7 : Hid (w7.os = wx.os ∧ w7.tape = wx.tape ∧ w7.output = wx.output) := Lib.hid (by rw [hN]; exact ⟨rfl, rfl, rfl⟩)
            have HC7 := Lib.hid hc7
            have hz7 := hc7.1
            clear hN hc7
            refine hK.out _ _ (HS10.out w7 (fun q hq _ => HC7.out.2.2 q hq)) ?_
            clear hK K
            try simp only [Act.put, List.setIfInBounds_toArray, List.set_cons_zero, List.set_cons_succ]
            refine wpAnyD_one (i := 9) (o := ⟨_, _, _, _, _, _⟩) (by kernel_rfl) (by decide) rfl (fun nq K hK0 => ?_)
            have hK := Lib.hid hK0
            clear hK0
            have OW : Hid ((w7.drewN nq).ownsRow wr.heap.size 82 5 (.slice va 2 vc) 2 (qs2.flatMap Five.flat)) := Lib.hid (row_kept (w := wx) HOW2.out (fun q hq => HC7.out.2.2 q (World.ownsRow.lt HOW2.out q hq).2))
            have SRC : Hid (Src Try.prog 5 80 (.slice (some ⟨wx.heap.size, 0, none⟩) 1 1) 1 [.int .i64 2, .int .u64 (0 : Nat), .slice none 0 0, .float .f64 st, .slice none 0 0] (w7.drewN nq)) := Lib.hid (five_at (w7.drewN nq) _ _ HC7.out.2.1 (by intro u hu; simp at hu; rcases hu with rfl | rfl | rfl | rfl | rfl <;> rfl))
            refine step_own_src _ rfl _ _ 80 80 (by rfl) wr.heap.size 82 i0 _ 5 72 Try.underlying80 hi hz0 hz1 hz2q rfl (by decide) _ _ _ (by rfl) OW.out _ _ _ (by rfl) SRC.out (by unfold maxLen; omega) (by omega) (show wr.heap.size ≤ w7.heap.size from by have := HROW.out.below.size; omega) ?_
            intro v' w10 hown10 hg10
            have HG10 := Lib.hid hg10
            have HO10 := Lib.hid hown10
            have E10 : Hid (∀ q : Nat, q < wx.heap.size → (Value.slice va 2 vc).ownBlock ≠ some q → w10.heap[q]? = wx.heap[q]?) := Lib.hid (fun q hq hn => (hg10.gb.block q (by show q < w7.heap.size; omega) (fun e => hn e.symm)).trans (HC7.out.2.2 q hq))
            clear hown10 hg10 OW SRC
            refine hK.out _ _ (HS10.out w10 (fun q hq hn => E10.out q hq hn)) ?_
            clear hK K
            try simp only [Act.put, List.setIfInBounds_toArray, List.set_cons_zero, List.set_cons_succ]
            have hSd := HS10.out w10 (fun q hq hn => E10.out q hq hn)
            refine wpAnyD_take (i := 10) (oi := ⟨_, _, _, _, _, _⟩) (v := ?_) rfl (by kernel_rfl) (by kernel_rfl) (by kernel_rfl) (by kernel_rfl) (fun _ _ _ h => h) (fun _ _ h => h) (Or.inl (Or.inl ⟨by rfl, ?_⟩)) hSd ?_
            rotate_left
            · intro W hSw; (try dsimp only at hSw); first | (go_simp; done) | (go_simp; with_reducible rfl)
            try simp only [Act.put, List.setIfInBounds_toArray, List.set_cons_zero, List.set_cons_succ]
            clear hSd
            refine wpAnyD_last (by kernel_rfl) (fun nd => ?_)
            refine wpOp_one rfl (by rfl) ?_
            obtain ⟨xa, xc, rfl⟩ : ∃ xa xc, v' = .slice xa 3 xc := row_shape_any HO10.out
            have HLA : Hid (ListAt (w10.drewN nd) rb (.slice va 2 vc)) := Lib.hid (HROW.out.box.kept (E10.out _ HROW.out.rb2 HROW.out.ne))
            have hg4c := HLA.out.c4
            have hg4z := HLA.out.z4
            have HRW := Lib.hid (HROW.out.push (nd := nd) hz7 HC7.out.2.2 HP7.out (q := ⟨.int .i64 2, .int .u64 (0 : Nat), .slice none 0 0, .float .f64 st, .slice none 0 0⟩) (y := realV st) (fun S W => real_reads 12 st HST.out) HG10.out (by rw [HQ2L.out]; exact HO10.out))
            generalize w10.drewN nd = wa at *
            clear HROW HLA HG10 HO10 E10 HS10 HOW2
            go_simp
            clear hg4c hg4z
            generalize wa.setCell ⟨rb, 4, none⟩ (.slice xa 3 xc) = wz at *
            have HB2 : Hid (Below wr.heap.size wr wz) := Lib.hid HRW.out.below
            have hsz2 := HB2.out.size
            have HY : Hid (ReadsS (fun q => wr.heap.size ≤ q ∧ q < wz.heap.size) wz 14 (Five.agg ⟨.int .i64 3, .int .u64 (0 : Nat), .slice none 0 0, .float .f64 (0 : Nat), (Value.slice xa 3 xc)⟩) (entV ⟨nm, false, X, st⟩)) := Lib.hid (row_reads (n := 13) (HRW.out.list.kept (by simp) (fun q hq => ⟨⟨hq.1, hq.2.1⟩, rfl⟩)) (by simp))
            obtain ⟨r0, r1, r2, r3, r4, _⟩ := HRW.out.box
            have hls2 : ListAt wz w1.heap.size (.slice ra k rc) := hLA.out.kept (HB2.out.block _ (by omega))
            have hg4c := hls2.c4
            have HL2 := Lib.hid hls2
            have HVB : Hid (∀ j, (Value.slice ra k rc).ownBlock = some j → w1.heap.size + 1 ≤ j ∧ j < wr.heap.size) := HVL
            have hownr : wz.ownsRow (w1.heap.size + 1) 82 5 (.slice ra k rc) k (qs.flatMap Five.flat) := row_kept HOWR.out (fun q hq => HB2.out.block q (HVB.out q hq).2)
            have HS1 : Hid (w1.heap.size + 1 ≤ wz.heap.size) := Lib.hid (by omega)
            clear hls2
            go_wp2_with (at_builtin; refine wpList_own_src _ rfl _ _ 80 80 rfl (w1.heap.size + 1) 82 i0 _ 5 72 Try.underlying80 hi hz0 hz1 hz2q rfl (by decide) _ _ _ rfl (hownr.alloc _) _ 1 _ rfl (five_src _ 3 0 none _ 0 0 _ _ 0) ?c3 ?c4 ?c5 ?_)
            case c3 => unfold maxLen; omega
            case c4 => omega
            case c5 => have := HS1.out; simp; omega
            intro v4 w4 hown4 hg4
            have hs4 := hg4.size
            simp at hs4
            have hl4 : ListAt w4 w1.heap.size (.slice ra k rc) := (HL2.out.kept (Below.heap_alloc _ _ _ (by have := HS1.out; omega))).kept (hg4.gb.block _ (by have := HS1.out; simp; omega) (fun e => by have := HVB.out _ e.symm; omega))
            have hb4 : Below w1.heap.size w1 w4 := Below.grown ((hBW.out.trans (HB2.out.mono (by omega))).alloc (by have := HS1.out; omega) _) hg4.gb (by have := HS1.out; simp; omega) (fun j hj => by have := HVB.out j hj; omega)
            have hr4 := (Rows5.grow (q := ⟨_, _, _, _, _⟩) hR.out (by omega) hsz2 (fun q _ hq => HB2.out.block q hq) HY.out hg4 (by rw [hQ.out]; exact hown4)).set (b := w1.heap.size) (by omega) v4
            obtain ⟨v4a, v4c, rfl⟩ := own5_slice hown4
            have hc4 := hl4.c4
            have hz4 := hl4.z4
            have HR4 := Lib.hid hr4
            have HL4 := Lib.hid (hl4.set (.slice v4a (k + 1) v4c))
            have HB4 := Lib.hid (hb4.setCell (p := ⟨w1.heap.size, 4, none⟩) (by simp) (.slice v4a (k + 1) v4c))
            have HS4 : Hid (w1.heap.size + 1 ≤ w4.heap.size) := Lib.hid (by have := HS1.out; omega)
            clear hownr hown4 hg4 hr4 hl4 hb4 hg4c r0 r1 r2 r3 r4
            go_wp2_with fail
            go_roundw
            case rel => exact ⟨k + 1, qs ++ [⟨.int .i64 3, .int .u64 (0 : Nat), .slice none 0 0, .float .f64 (0 : Nat), (Value.slice xa 3 xc)⟩], _, by omega, by go_num, Lib.hid (by have := hQ.out; simp; omega), Lib.hid (by rw [HTK.out]; exact HR4.out), HL4, HB4, Lib.hid (by have := HS4.out; simpa using this)⟩
            case measure => simp [intOf]; omega
      · have hkl : k = l.length := by omega
        have HL : Hid (ListS (fun q => w1.heap.size + 1 ≤ q ∧ q < wr.heap.size) wr (ReadsS (fun q => w1.heap.size + 1 ≤ q ∧ q < wr.heap.size) wr 14) v (l.map entV)) := Lib.hid (by
          have := hR.out.list
          rw [hkl, List.take_of_length_le (by rw [List.length_map]; omega)] at this
          exact this)
        have HML : Hid ((l.map entV).length ≤ 1048576) := Lib.hid (by rw [List.length_map]; exact hl)
        obtain ⟨va, vc, rfl⟩ := ListS.shape HL.out
        obtain ⟨r0, r1, r2, r3, r4, _⟩ := hLA.out
        obtain ⟨ml, hml⟩ : ∃ ml, (l.map entV).length = ml := ⟨_, rfl⟩
        rw [hml] at HL r4
        obtain ⟨w3, hw3⟩ : ∃ w3, w3 = wr.alloc (.cells #[.int .i64 3, .int .u64 0, .slice none 0 0, .float .f64 0, .slice va ml vc] 82) := ⟨_, rfl⟩
        have HLIT := Lib.hid (lit_list (S := fun q => q < wr.heap.size) (w := wr) (w' := w3) (n := 15) [⟨.int .i64 3, .int .u64 (0 : Nat), .slice none 0 0, .float .f64 (0 : Nat), .slice va ml vc⟩] [rowV (l.map entV)] (by simp) rfl (by rw [hw3]; exact Or.inl rfl) (fun k hk => hk) (fun j q y hq hy => by
          match j, hq, hy with
          | 0, hq, hy => injection hq with hq; injection hy with hy; subst hq hy; exact row_reads (n := 14) (HL.out.kept HML.out (fun q hq => ⟨hq.2, rfl⟩)) HML.out))
        have HSE := Lib.hid (dseal_any (fun k => k < w3.heap.size) 3 _ [rowV (l.map entV)] w3 (fun k hk => hk) (by omega) (by simp) HLIT.out)
        have HB3 : Hid (Below w.heap.size w w3) := Lib.hid (by rw [hw3]; exact HBW0.out.alloc HBW0.out.size _)
        clear hkl HLIT HP
        generalize encR (recV 3 [rowV (l.map entV)]) = r at *
        clear hml
        go_wp2_with fail
        rw [← hw3]
        refine HSE.out.mono ?_
        intro e w4 h4
        have HA := Lib.hid (rencA_mono HB3.out h4)
        clear h4
        cases r with
        | error c =>
          obtain ⟨rfl, hb4⟩ := HA.out
          have HB4 := Lib.hid hb4
          clear hb4 HA
          go_wp2_with fail
          go_ret2
          exact ⟨rfl, HB4.out⟩
        | ok oo =>
          obtain ⟨rfl, hb4⟩ := HA.out
          have HB4 := Lib.hid hb4
          clear hb4 HA
          go_wp2_with fail
          go_ret2
          exact ⟨rfl, HB4.out⟩
  · rw [if_pos (by simpa using h0)]
    have g0 : (oe != 0) = true := by rw [bne_iff_ne]; exact h0
    clear h0 HP
    go_enter Try.func12, Try.ntmps12
    go_wp2_with fail
    refine HO.out.mono ?_
    rintro e w1 ⟨rfl, hb1⟩
    have HB1 := Lib.hid hb1
    clear hb1
    go_wp2_with fail
    go_ret2
    exact ⟨rfl, HB1.out⟩
end Go.Proofs.Ytdolonkeanlaoaa
