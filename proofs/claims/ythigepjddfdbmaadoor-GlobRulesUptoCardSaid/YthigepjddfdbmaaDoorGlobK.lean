/- step: one more name. -/
import Derived.Test.YthigepjddfdbmaaDoorGlobJ
import Derived.Test.YthigepjddfdbmaaDoorRound
import Derived.Deep.Cut
import Derived.Deep.DrawnRows
import Derived.Deep.QuietTactic
import Derived.BigQuiet
import Derived.StillTailTactics
import Derived.Deep.RegionHeld3
import Derived.BigRegion
import Derived.IntWalk
namespace Go.Proofs.YthigepjddfdbmaaDoor
open Go.RowKit Go.Shelf Go.Lib
attribute [local go_sem] Oper.semAt_some

/-- What a piece reads as. -/
def pvOk (S : Nat → Prop) (w : World) (ps : List PieceN) (mb : Nat → PV) : Prop := ∀ k, k < ps.length → (mb k).b = manyB ps k ∧ ∀ l, ps.getD k none = some l → SignsC S w (.slice (mb k).a (mb k).n (mb k).c) l ∧ l.length ≤ 4194304
theorem PiecesC.pv {S : Nat → Prop} {w : World} {v : Value} {ps : List PieceN} (h : PiecesC S w v ps) (hl : ps.length ≤ 4194304) : ∃ mb, PCells S w v ps.length mb ∧ pvOk S w ps mb := by
  obtain ⟨a, c, rfl⟩ := RowsC.shape h
  by_cases h0 : ps.length = 0
  · exact ⟨fun _ => ⟨false, none, 0, 0⟩, ⟨hl, ⟨_, _, rfl⟩, fun _ _ _ hp => by omega⟩, fun k hk => by omega⟩
  · obtain ⟨g, o, rfl, h2, h3, h4, h5⟩ := PiecesC.at h (by omega)
    have h6 : ∀ k, ∃ p : PV, k < ps.length → (w.cell? ⟨g, o + k * 2, none⟩ = some (.bool p.b) ∧ w.cell? ⟨g, o + k * 2 + 1, none⟩ = some (.slice p.a p.n p.c)) ∧ p.b = manyB ps k ∧ ∀ l, ps.getD k none = some l → SignsC S w (.slice p.a p.n p.c) l ∧ l.length ≤ 4194304 := fun k => by
      by_cases hk : k < ps.length
      · obtain ⟨a2, n2, c2, e1, e2, e3⟩ := h5 k hk
        exact ⟨⟨manyB ps k, a2, n2, c2⟩, fun _ => ⟨⟨e1, e2⟩, rfl, e3⟩⟩
      · exact ⟨⟨false, none, 0, 0⟩, fun h => absurd h hk⟩
    obtain ⟨mb, hmb⟩ := Classical.axiomOfChoice h6
    refine ⟨mb, ⟨hl, ⟨_, _, rfl⟩, fun a c e _ => ?_⟩, fun k hk => (hmb k hk).2⟩
    injection e with e1 e2 e3
    subst e1
    exact ⟨g, o, rfl, h2, fun j hj => (hmb j hj).1⟩
/-- What holds between two places. -/
structure StI (w : World) (s0 cb : Nat) (ps : List PieceN) (x : Txt) (f : Nat → Bool) (l : List Nat) (W : World) : Prop where
  r : Bits W cb (ps.length + 1) (stepsF ps x (stF ps x f ps.length) l)
  g : w.grownBy W (some cb)
  sz : s0 ≤ W.heap.size
theorem StI.own {w : World} {s0 cb : Nat} {ps : List PieceN} {x : Txt} {f : Nat → Bool} {l : List Nat} {W W' : World} {row : Option Nat} (h : StI w s0 cb ps x f l W) (hcb : cb < w.heap.size) (hg : W.grownBy W' row) (hr : ∀ r, row = some r → w.heap.size ≤ r) : StI w s0 cb ps x f l W' :=
  ⟨h.r.kept (hg.block cb h.r.lt (fun e => by have := hr cb e.symm; omega)) hg.size, ⟨hg.os.trans h.g.os, hg.tape.trans h.g.tape, hg.output.trans h.g.output, Nat.le_trans h.g.size hg.size, fun k hk hne => (hg.block k (Nat.lt_of_lt_of_le hk h.g.size) (fun e => by have := hr k e.symm; omega)).trans (h.g.block k hk hne)⟩, Nat.le_trans h.sz hg.size⟩
theorem StI.owns {w : World} {s0 cb : Nat} {ps : List PieceN} {x : Txt} {f : Nat → Bool} (hcb : cb < w.heap.size) (hs : w.heap.size ≤ s0) : OwnFrom s0 (fun (pre : List (_root_.Fin ps.length)) W => StI w s0 cb ps x f (pre.map (fun y => y.1)) W) :=
  fun _ _ _ _ h hg hr => StI.own h hcb hg (fun r e => by have := (hr r e).1; omega)
/-- A round that sets marks and makes memory. -/
theorem StI.after {w : World} {s0 cb : Nat} {ps : List PieceN} {x : Txt} {f : Nat → Bool} {l : List Nat} {W W' : World} {j : Nat} {X : Nat → Prop} (h : StI w s0 cb ps x f l W) (hcb : cb < s0) (hX : ∀ k, X k → k < s0 ∧ k ≠ cb) (hg : W.grownBy W' (some cb)) {h' : Nat → Bool} (hr : Bits W' cb (ps.length + 1) h') (hh : ∀ p, p < ps.length + 1 → stepF ps x (stepsF ps x (stF ps x f ps.length) l) j p = h' p) :
    KeepsFrom s0 W W' ∧ KpX X W W' ∧ StI w s0 cb ps x f (l ++ [j]) W' :=
  ⟨KeepsFrom.of_grownBy hg (fun j e => by injection e with e; omega), fun k hk => hg.block k (Nat.lt_of_lt_of_le (hX k hk).1 h.sz) (fun e => (hX k hk).2 (by injection e with e)), ⟨hr.congr (fun p hp => by rw [stepsF_snoc]; exact hh p hp), gb_trans h.g hg, Nat.le_trans h.sz hg.size⟩⟩
theorem stepF_skip {ps : List PieceN} {x : Txt} {h : Nat → Bool} {j : Nat} (hj : h j = false ∨ manyB ps j = true) : stepF ps x h j = h := if_pos hj
theorem stepF_take {ps : List PieceN} {x : Txt} {h : Nat → Bool} {j : Nat} (h1 : h j = true) (h2 : manyB ps j = false) (p : Nat) : stepF ps x h j p = if p = j + 1 ∧ meansAt ps x j = true then true else if p = j then false else h p := by
  unfold stepF
  rw [if_neg (by rw [h1, h2]; rintro (h | h) <;> cases h)]
theorem rf_enter {P : Program} {c : Code} {Q : Exit → Act → World → Prop} {tm : Array Value} {w : World} (h : ∀ t, t = tm → c.wp P Q ⟨t, []⟩ w) : c.wp P Q ⟨tm, []⟩ w := h tm rfl
set_option maxRecDepth 100000 in
set_option maxHeartbeats 4000000 in
theorem step_any (S : Nat → Prop) (pb cb : Nat) (ps : List PieceN) (f : Nat → Bool) (l : List Txt) (x : Txt) (w : World) (hS : ∀ k, S k → k < w.heap.size ∧ k ≠ cb) (h : PatAt S w pb ps) (hb : Bits w cb (ps.length + 1) f) (hf : StandF ps l f) (hx : x.length ≤ 4194304) :
    Calls Tryd.prog 30 #[.pointer (some ⟨pb, 0, none⟩), .slice (some ⟨cb, 0, none⟩) (ps.length + 1) (ps.length + 1), .string ⟨x.toArray⟩] w fun e w' => e = .returned (.tuple #[]) ∧ ∃ f', Bits w' cb (ps.length + 1) f' ∧ StandF ps (l ++ [x]) f' ∧ w.grownBy w' (some cb) := by
  have HPA := Lib.hid (fun (W : World) (hg : w.grownBy W (some cb)) => h.kept (S' := S) (w' := W) (fun k hk => ⟨hk, hg.block k (hS k hk).1 (fun e => (hS k hk).2 (by injection e with e))⟩))
  have HST := Lib.hid (step_stand (x := x) hf)
  have HS := Lib.hid hS
  have hcl := hb.lt
  have hpb := h.1
  obtain ⟨_, ⟨v, hv, hr⟩, hl⟩ := h
  obtain ⟨mb, hpc, hok⟩ := PiecesC.pv hr hl
  obtain ⟨a, c, rfl⟩ := RowsC.shape hr
  have HPC := Lib.hid (fun (W : World) (hg : w.grownBy W (some cb)) => hpc.kept (w' := W) (fun k hk => hg.block k (hS k hk).1 (fun e => (hS k hk).2 (by injection e with e))))
  have HOK := Lib.hid hok
  have HB := Lib.hid hb
  have HL0 : Hid (Below w.heap.size w ((w.alloc (.cells #[.slice (some ⟨cb, 0, none⟩) (ps.length + 1) (ps.length + 1)] 53)).alloc (.cells #[.string ⟨x.toArray⟩] 9))) := Lib.hid (((Below.refl w.heap.size w).alloc (Nat.le_refl _) _).alloc (by simp) _)
  have HT := Lib.hid (two_ones w (.slice (some ⟨cb, 0, none⟩) (ps.length + 1) (ps.length + 1)) (.string ⟨x.toArray⟩) 53 9)
  have HSZ : Hid (w.heap.size + 1 < ((w.alloc (.cells #[.slice (some ⟨cb, 0, none⟩) (ps.length + 1) (ps.length + 1)] 53)).alloc (.cells #[.string ⟨x.toArray⟩] 9)).heap.size) := Lib.hid (by simp)
  have HV := Lib.hid hv
  clear hr hpc hok hb hf hS hv
  refine (callsIn_wide (n := 6)).1 (callsIn_of_wp_marks Tryd.func30 rfl trivial (wpIn_wide.2 ?_) rfl)
  simp only [Tryd.ntmps30, List.size_toArray, List.length_cons, List.length_nil, Nat.reduceAdd, Nat.reduceSub, Array.replicate_succ, Array.replicate_zero, List.push_toArray, List.append_toArray, List.nil_append, List.cons_append]
  go_upto_region 1 with fail
  generalize ((w.alloc (.cells #[.slice (some ⟨cb, 0, none⟩) (ps.length + 1) (ps.length + 1)] 53)).alloc (.cells #[.string ⟨x.toArray⟩] 9)) = wz at *
  obtain ⟨b4, hb4⟩ : ∃ q, w.heap.size = q := ⟨_, rfl⟩
  obtain ⟨b5, hb5⟩ : ∃ q, b4 + 1 = q := ⟨_, rfl⟩
  have HB4 := Lib.hid hb4
  have HB5 := Lib.hid hb5
  have ht := HT.out
  rw [hb4, hb5] at ht
  have hsz := HSZ.out
  rw [hb4, hb5] at hsz
  rw [hb4] at hcl ⊢
  rw [hb5]
  have HT2 := Lib.hid ht
  clear hb4 hb5 HT HSZ ht
  have c4 := cell0 HT2.out.1
  have c5 := cell0 HT2.out.2
  have cp := (World.cell?_of_block (w := w) (a := ⟨pb, 0, none⟩) (HL0.out.block pb (HS.out pb hpb).1)).trans HV.out
  have HBZ : Hid (Bits wz cb (ps.length + 1) f) := Lib.hid (HB.out.kept (HL0.out.block cb (by have := HB4.out; omega)) HL0.out.size)
  have f0 := HBZ.out.cs ps.length (by omega)
  have f1 := HBZ.out.fr ps.length
  go_region
  have HI0 : Hid (Bits (wz.setCell ⟨cb, ps.length, none⟩ (.bool false)).drew cb (ps.length + 1) (stF ps x f ps.length)) := Lib.hid (Bits.kept (HBZ.out.put (by omega) (fun p hp => stF_start ps x f hp)) rfl (Nat.le_refl _))
  have HGY : Hid (w.grownBy (wz.setCell ⟨cb, ps.length, none⟩ (.bool false)).drew (some cb)) := Lib.hid ⟨HL0.out.os, HL0.out.tape, HL0.out.output, by simpa using HL0.out.size, fun q hq hne => (Below.heap_setCell _ _ _ _ (fun e => hne (by rw [e]))).trans (HL0.out.block q hq)⟩
  have HT3 : Hid ((wz.setCell ⟨cb, ps.length, none⟩ (.bool false)).drew.heap[b4]? = wz.heap[b4]? ∧ (wz.setCell ⟨cb, ps.length, none⟩ (.bool false)).drew.heap[b5]? = wz.heap[b5]? ∧ (wz.setCell ⟨cb, ps.length, none⟩ (.bool false)).drew.heap.size = wz.heap.size) := Lib.hid ⟨Below.heap_setCell _ _ _ _ (by show b4 ≠ cb; omega), Below.heap_setCell _ _ _ _ (by show b5 ≠ cb; have := HB5.out; omega), by simp⟩
  clear c4 c5 cp f0 f1
  generalize (wz.setCell ⟨cb, ps.length, none⟩ (.bool false)).drew = wy at *
  have HT4 : Hid (wy.heap[b4]? = some (.cells #[.slice (some ⟨cb, 0, none⟩) (ps.length + 1) (ps.length + 1)] 53 (0, 0)) ∧ wy.heap[b5]? = some (.cells #[.string ⟨x.toArray⟩] 9 (0, 0)) ∧ b5 < wy.heap.size) := Lib.hid ⟨HT3.out.1.trans HT2.out.1, HT3.out.2.1.trans HT2.out.2, by rw [HT3.out.2.2]; exact hsz⟩
  have cp := (World.cell?_of_block (w := w) (a := ⟨pb, 0, none⟩) (HGY.out.block pb (HS.out pb hpb).1 (fun e => (HS.out pb hpb).2 (by injection e with e)))).trans HV.out
  clear HT2 HT3 HBZ HB HL0 hsz
  go_upto_region 3 with (go_at_call 49; refine (backM_any _ _ _ _).mono ?_; rintro e w2 ⟨rfl, rfl⟩)
  refine rf_enter ?_
  intro tm htm
  have HTM := Lib.hid htm
  clear htm
  have hbox : (wy.alloc (.cells #[.slice a ps.length c] 44)).cell? ⟨wy.heap.size, 0, none⟩ = some (.slice a ps.length c) := cell_of_one (new_five _ _ _)
  refine (wpIn_wide (n := 6)).1 ?_
  have hgs := HGY.out.size
  have hw4 := HB4.out
  obtain ⟨A0, hA0⟩ : ∃ A0 : World, wy.alloc (.cells #[.slice a ps.length c] 44) = A0 := ⟨_, rfl⟩
  have hA1 : wy.heap.size + 1 ≤ A0.heap.size := by rw [← hA0]; simp
  have hA2 : ∀ q, q < wy.heap.size → A0.heap[q]? = wy.heap[q]? := fun q hq => by rw [← hA0]; exact Below.heap_alloc _ _ _ hq
  have hGA : wy.grownBy A0 (some cb) := by rw [← hA0]; exact World.grownBy_alloc wy _ _
  have hI1 : StI wy A0.heap.size cb ps x f [] A0 := ⟨HI0.out.kept (hA2 cb (by omega)) (by omega), hGA, Nat.le_refl _⟩
  have hPC : PCells S A0 (.slice a ps.length c) ps.length mb := (HPC.out A0 (gb_trans HGY.out hGA))
  rw [hA0] at hbox ⊢
  have hSA : ∀ q, S q → q < A0.heap.size := fun q hq => by have := (HS.out q hq).1; omega
  clear hA0
  refine wpIn_rangeFunc_ownH rfl (by omega) (gf := 59) (lb := #[.pointer (some ⟨wy.heap.size, 0, none⟩)]) (by rw [HTM.out]; rfl) trivial (enters_of Tryd.func59 (by kernel_rfl) rfl)
    (back_stops Fence.wide (6 - 1) trivial rfl (by omega) S wy.heap.size (.slice a ps.length c) ps.length mb A0 hbox (by omega) hSA hPC)
    KpX.trans (fun W l o o' h1 h2 h3 h4 => KpX.putObj (n := A0.heap.size) (fun q hq => hq.elim (fun e => by omega) (fun e => hSA q e)) W l o o' h1 h2 h3 h4) (Below.refl _ _) (fun _ => rfl)
    (fun (pre : List (_root_.Fin ps.length)) W => StI wy A0.heap.size cb ps x f (pre.map (fun y => y.1)) W) (fun _ _ _ => False)
    (StI.owns (by omega) (by omega)) (fun _ _ _ _ _ hs _ _ => hs) hI1
    (fun y a' W => ∃ bx, A0.heap.size ≤ bx ∧ W.heap[bx]? = some (.cells #[.bool (mb y.1).b, .slice (mb y.1).a (mb y.1).n (mb y.1).c] 74 (0, 0)) ∧ a' = ⟨((((tm.setIfInBounds 20 (.int .i64 (y.1 : Int))).setIfInBounds 21 (mb y.1).v).setIfInBounds 6 (.int .i64 (y.1 : Int))).setIfInBounds 7 (.pointer (some ⟨bx, 0, none⟩))), []⟩)
    ?ax ?assign ?body ?done ?stop
  case ax =>
    rintro y a' _ W W' row ⟨bx, h1, h2, h3⟩ hg hr
    refine ⟨bx, h1, (hg.block bx (Array.getElem?_eq_some_iff.1 h2).1 (fun e => ?_)).trans h2, h3⟩
    obtain ⟨_, o, h4, h5⟩ := hr bx e.symm
    rw [h2] at h4
    injection h4 with h4
    rw [← h4] at h5; cases h5
  case assign =>
    intro l2 pre y W K2 hIW hK2
    have htm := HTM.out
    subst htm
    simp only [List.setIfInBounds_toArray, List.set_cons_succ, List.set_cons_zero] at hK2
    gi_wp2
    refine hK2 _ _ ⟨by simp, fun k o _ hk _ => ?_⟩ (fun k hk => Below.heap_alloc _ _ _ ?_) (hIW.own (by omega) (World.grownBy_alloc W _ none) (fun r e => by cases e)) ⟨W.heap.size, hIW.sz, new_five _ _ _, rfl⟩
    · exact (Below.heap_alloc _ _ _ (Array.getElem?_eq_some_iff.1 hk).1).trans hk
    · have := hIW.sz
      rcases hk with rfl | hk
      · omega
      · have := hSA k hk; omega
  case body =>
    rintro l2 pre y a' W hl2 _ hI ⟨bx, hbx, hbk, rfl⟩ hlen
    have htm := HTM.out
    subst htm
    simp only [List.setIfInBounds_toArray, List.set_cons_succ, List.set_cons_zero]
    obtain ⟨j, hj⟩ : ∃ j, y.1 = j := ⟨_, rfl⟩
    have hjl : j < ps.length := by have := y.2; omega
    rw [hj] at hbk ⊢
    have t4 := HT4.out
    have c4 := cell0 ((hI.g.block b4 (by have := t4.2.2; have := HB5.out; omega) (fun e => by injection e with e; omega)).trans t4.1)
    have c5 := cell0 ((hI.g.block b5 (by have := t4.2.2; omega) (fun e => by injection e with e; have := HB5.out; omega)).trans t4.2.1)
    have e0 := hI.r.cs j (by omega)
    have e1 := hI.r.fr j
    have d0 : W.cell? ⟨bx, 0, none⟩ = some (.bool (mb j).b) := by rw [cell_of_row _ _ _ _ _ _ hbk]; rfl
    have d1 : W.cell? ⟨bx, 1, none⟩ = some (.slice (mb j).a (mb j).n (mb j).c) := by rw [cell_of_row _ _ _ _ _ _ hbk]; rfl
    have hX : ∀ k, (k = wy.heap.size ∨ S k) → k < A0.heap.size ∧ k ≠ cb := fun k hk => by
      rcases hk with rfl | hk
      · exact ⟨by omega, by omega⟩
      · exact ⟨hSA k hk, (HS.out k hk).2⟩
    have HX := Lib.hid hX
    have HI := Lib.hid hI
    rw [(HOK.out j hjl).1] at d0
    have HJ := Lib.hid hj
    have hcb0 : cb < A0.heap.size := by omega
    have hbxc : bx ≠ cb := by omega
    have hbW : bx < W.heap.size := (Array.getElem?_eq_some_iff.1 hbk).1
    have HTK := Lib.hid (fun h1 h2 p => @stepF_take ps x (stepsF ps x (stF ps x f ps.length) (pre.map (fun y => y.1))) j h1 h2 p)
    have HSK := Lib.hid (fun h1 => @stepF_skip ps x (stepsF ps x (stF ps x f ps.length) (pre.map (fun y => y.1))) j h1)
    have HBK := Lib.hid hbk
    have hok := (HOK.out j hjl).2
    obtain ⟨q0, hq0⟩ : ∃ q, stepsF ps x (stF ps x f ps.length) (pre.map (fun y => y.1)) j = q := ⟨_, rfl⟩
    obtain ⟨q1, hq1⟩ : ∃ q, manyB ps j = q := ⟨_, rfl⟩
    rw [hq0] at e0
    rw [hq1] at d0
    have HQ0 := Lib.hid hq0
    have HQ1 := Lib.hid hq1
    have HMK := Lib.hid hok
    have hWS := hI.sz
    have hWG : Hid (w.grownBy W (some cb)) := Lib.hid (gb_trans HGY.out hI.g)
    obtain ⟨ma, mn, mc, hmv⟩ : ∃ a n c, (mb j).a = a ∧ (mb j).n = n ∧ (mb j).c = c := ⟨_, _, _, rfl, rfl, rfl⟩
    rw [hmv.1, hmv.2.1, hmv.2.2] at d1
    have HMV := Lib.hid hmv
    clear hj hq0 hq1 hbk hok hI hX hmv t4
    cases q0
    · gi_wp2
      have := HI.out.after (j := j) hcb0 HX.out (World.grownBy.refl _ _) HI.out.r (fun p _ => by rw [HSK.out (Or.inl HQ0.out)])
      refine ⟨this.1, this.2.1, ?_⟩
      show StI _ _ _ _ _ _ ((pre ++ [y]).map (fun y => y.1)) _
      rw [List.map_append, List.map_singleton, HJ.out]; exact this.2.2
    · cases q1
      · have hpn : ∃ m, ps.getD j none = some m := by
          have h1 := HQ1.out
          unfold manyB at h1
          cases hp : ps.getD j none with
          | none => rw [hp] at h1; cases h1
          | some m => exact ⟨m, rfl⟩
        obtain ⟨m, hm⟩ := hpn
        have hsg := HMK.out m hm
        rw [HMV.out.1, HMV.out.2.1, HMV.out.2.2] at hsg
        obtain ⟨⟨hsg, hml⟩, hmn⟩ : (SignsC S w (.slice ma mn mc) m ∧ m.length ≤ 4194304) ∧ mn = m.length := ⟨hsg, by obtain ⟨a3, c3, e3⟩ := RowsC.shape hsg.1; injection e3⟩
        subst hmn
        have hMA : Hid (meansAt ps x j = meansB m x) := Lib.hid (by unfold meansAt; rw [hm])
        have HW1 : Hid (W.grownBy (W.setCell ⟨cb, j, none⟩ (.bool false)) (some cb)) := Lib.hid (gb_set _ _ _ _)
        have hC := Lib.hid (means_any S false ma mc m x (W.setCell ⟨cb, j, none⟩ (.bool false)) (fun k hk => by have := hSA k hk; simp; omega) (RowsC.kept sign_keeps hsg (fun k hk => ⟨hk, (gb_trans hWG.out HW1.out).block k (HS.out k hk).1 (fun e => (HS.out k hk).2 (by injection e with e))⟩)) hml hx)
        have hB1 : Hid (Bits (W.setCell ⟨cb, j, none⟩ (.bool false)) cb (ps.length + 1) (fun p => if p = j then false else stepsF ps x (stF ps x f ps.length) (pre.map (fun y => y.1)) p)) := Lib.hid (HI.out.r.put (by omega) (fun p _ => rfl))
        have HCC : Hid ((W.setCell ⟨cb, j, none⟩ (.bool false)).cell? ⟨b4, 0, none⟩ = W.cell? ⟨b4, 0, none⟩ ∧ (W.setCell ⟨cb, j, none⟩ (.bool false)).cell? ⟨b5, 0, none⟩ = W.cell? ⟨b5, 0, none⟩ ∧ (W.setCell ⟨cb, j, none⟩ (.bool false)).cell? ⟨bx, 0, none⟩ = W.cell? ⟨bx, 0, none⟩ ∧ (W.setCell ⟨cb, j, none⟩ (.bool false)).cell? ⟨bx, 1, none⟩ = W.cell? ⟨bx, 1, none⟩) := Lib.hid
          ⟨World.cell?_setCell_other _ _ _ _ (by intro c; injection c with c _ _; omega), World.cell?_setCell_other _ _ _ _ (by intro c; injection c with c _ _; have := HB5.out; omega), World.cell?_setCell_other _ _ _ _ (by intro c; injection c with c _ _; omega), World.cell?_setCell_other _ _ _ _ (by intro c; injection c with c _ _; omega)⟩
        have c4' := HCC.out.1.trans c4
        have c5' := HCC.out.2.1.trans c5
        have d0' := HCC.out.2.2.1.trans d0
        have d1' := HCC.out.2.2.2.trans d1
        clear hsg hm HCC
        gi_wp2
        refine ⟨trivial, CallsIn.inRound l2 (callsIn_wide.2 (hC.out.mono ?_))⟩
        rintro e W2 ⟨r, rfl, hr, hb2⟩
        have hg2 : (W.setCell ⟨cb, j, none⟩ (.bool false)).grownBy W2 (some cb) := ⟨hb2.os, hb2.tape, hb2.output, hb2.size, fun q hq _ => hb2.block q hq⟩
        have hB2 := hB1.out.kept (hb2.block cb hB1.out.lt) hb2.size
        have hc2 := (World.cell?_of_block (w := W.setCell ⟨cb, j, none⟩ (.bool false)) (a := ⟨b4, 0, none⟩) (hb2.block b4 (by simp; omega))).trans c4'
        have HG2 := Lib.hid (gb_trans HW1.out hg2)
        have HR : Hid (meansAt ps x j = r) := Lib.hid (by
          rw [hMA.out]
          cases r with
          | true => exact (meansB_iff m x).2 (hr.1 rfl)
          | false =>
            cases hmb : meansB m x with
            | false => rfl
            | true => exact absurd (hr.2 ((meansB_iff m x).1 hmb)) (by simp))
        have HB2 := Lib.hid hB2
        have k1 := hB2.fr (j + 1)
        have k2 := hB2.cs (j + 1) (by omega)
        clear hr hb2 hg2 hB2 hC hB1 c4 c5 d0 d1 c4' c5' d0' d1' e0 e1 hMA
        cases r
        · gi_wp2
          have := HI.out.after (j := j) hcb0 HX.out HG2.out HB2.out (fun p _ => by rw [HTK.out HQ0.out HQ1.out p, if_neg (by rw [HR.out]; rintro ⟨_, h⟩; cases h)])
          refine ⟨this.1, this.2.1, ?_⟩
          show StI _ _ _ _ _ _ ((pre ++ [y]).map (fun y => y.1)) _
          rw [List.map_append, List.map_singleton, HJ.out]; exact this.2.2
        · have HG3 := Lib.hid (gb_trans HG2.out (gb_set W2 cb (j + 1) (.bool true)))
          have HB3 : Hid (Bits (W2.setCell ⟨cb, j + 1, none⟩ (.bool true)) cb (ps.length + 1) (fun p => if p = j + 1 then true else (if p = j then false else stepsF ps x (stF ps x f ps.length) (pre.map (fun y => y.1)) p))) := Lib.hid (HB2.out.put (by omega) (fun p _ => rfl))
          gi_wp2
          have := HI.out.after (j := j) hcb0 HX.out HG3.out HB3.out (fun p _ => by
            rw [HTK.out HQ0.out HQ1.out p]
            by_cases e : p = j + 1
            · rw [if_pos ⟨e, HR.out⟩, if_pos e]
            · rw [if_neg (fun c => e c.1), if_neg e])
          refine ⟨this.1, this.2.1, ?_⟩
          show StI _ _ _ _ _ _ ((pre ++ [y]).map (fun y => y.1)) _
          rw [List.map_append, List.map_singleton, HJ.out]; exact this.2.2
      · gi_wp2
        have := HI.out.after (j := j) hcb0 HX.out (World.grownBy.refl _ _) HI.out.r (fun p _ => by rw [HSK.out (Or.inr HQ1.out)])
        refine ⟨this.1, this.2.1, ?_⟩
        show StI _ _ _ _ _ _ ((pre ++ [y]).map (fun y => y.1)) _
        rw [List.map_append, List.map_singleton, HJ.out]; exact this.2.2
  case done =>
    rintro Dd ys W hDd hys hI hK
    have HF : Hid (Bits W cb (ps.length + 1) (stF ps x f 0)) := Lib.hid (by
      have := hI.r
      rw [hys, stepsF_all _ (Nat.le_refl _)] at this; exact this)
    have HWG : Hid (w.grownBy W (some cb)) := Lib.hid (gb_trans HGY.out hI.g)
    have t4 := HT4.out
    have c4 := cell0 ((hI.g.block b4 (by have := t4.2.2; have := HB5.out; omega) (fun e => by injection e with e; omega)).trans t4.1)
    have HP := Lib.hid (pass_any S pb cb ps (stF ps x f 0) W (fun k hk => ⟨by have := hSA k hk; have := hI.sz; omega, (HS.out k hk).2⟩) (HPA.out W HWG.out) HF.out)
    have HDD : Hid (W.heap[Dd]? = some (.deferred (some [])) ∧ A0.heap.size ≤ Dd) := Lib.hid ⟨hK, hDd⟩
    have HSZ : Hid (A0.heap.size ≤ W.heap.size) := Lib.hid hI.sz
    clear hI hK t4
    have htm := HTM.out
    subst htm
    go_wp2_with fail
    refine HP.out.mono ?_
    rintro e W3 ⟨rfl, hb3, hg3⟩
    have hdl : Dd < W.heap.size := (Array.getElem?_eq_some_iff.1 HDD.out.1).1
    have hK3 : W3.heap[Dd]? = some (.deferred (some [])) := (hg3.block Dd hdl (fun e => by injection e with e; have := HDD.out.2; omega)).trans HDD.out.1
    have HB3 := Lib.hid hb3
    have HG3 := Lib.hid hg3
    clear hb3 hg3 HP
    go_wp2_with fail
    refine ⟨by simp, .inl ⟨_, _, rfl, run_takeDeferred hK3, ?_⟩⟩
    refine ⟨_, results_none rfl _ _ _, rfl, _, HB3.out.kept (World.putObj_heap_other (by have := HDD.out.2; omega)) (by simp), HST.out, ?_⟩
    have hg4 := grownBy_putObj' W3 Dd (.deferred none)
    have hg5 := gb_trans HWG.out HG3.out
    exact ⟨hg4.os.trans hg5.os, hg4.tape.trans hg5.tape, hg4.output.trans hg5.output, Nat.le_trans hg5.size hg4.size, fun q hq hne => (hg4.block q (Nat.lt_of_lt_of_le hq hg5.size) (fun e => by injection e with e; have := HDD.out.2; omega)).trans (hg5.block q hq hne)⟩
  case stop =>
    rintro D c2 pre W _ _ hh _
    exact hh.elim
end Go.Proofs.YthigepjddfdbmaaDoor
