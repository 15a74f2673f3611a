/- Rules: the iterator over them from their end; passes. -/
import Derived.Test.YthigepjddfdbmaaDoorGlobN
namespace Go.Proofs.YthigepjddfdbmaaDoor
open Go.RowKit Go.Shelf Go.Lib
attribute [local go_sem] Oper.semAt_some

/-- What a rule's cells hold. -/
structure RV where
  p : Nat
  b : Bool
abbrev RV.v (r : RV) : Value := .agg #[.pointer (some ⟨r.p, 0, none⟩), .bool r.b]
abbrev encR (mb : Nat → RV) {n : Nat} (p : _root_.Fin n) : Array Value := #[.int .i64 (p.1 : Int), (mb p.1).v]
set_option maxRecDepth 100000 in
set_option maxHeartbeats 2000000 in
theorem rback1_in (F : Fence) (n : Nat) (hf : F.fn 61) (hro : F.round = none) (hn : 1 ≤ n) (l Bs g o c len : Nat) (mb : Nat → RV) (X : Nat → Prop) (hX1 : X Bs) (hX2 : X g) (hlen : len ≤ 4194304) (hpos : 0 < len) (J Jx : List (_root_.Fin len) → World → Prop)
    (hY : ∀ pre x W, J pre W → pre.length < len → YieldAt F (n - 1) Tryd.prog l (encR mb x) W fun e W' =>
      (e = .returned (.bool true) ∧ J (pre ++ [x]) W' ∧ KpX X W W') ∨ (e = .returned (.bool false) ∧ Jx (pre ++ [x]) W'))
    (W : World) (hBs : W.cell? ⟨Bs, 0, none⟩ = some (.slice (some ⟨g, o, none⟩) len c)) (hc : ∀ j, j < len → W.cell? ⟨g, o + j * 2, none⟩ = some (.pointer (some ⟨(mb j).p, 0, none⟩)) ∧ W.cell? ⟨g, o + j * 2 + 1, none⟩ = some (.bool (mb j).b)) (h0 : J [] W) :
    CallsIn F n Tryd.prog 61 #[.func (.yield l) #[] #[], .pointer (some ⟨Bs, 0, none⟩)] W fun e W' => (∃ v, e = .returned v) ∧
      ((∃ ys, ys = downF len len ∧ J ys W') ∨ (∃ pre, (∃ k, k ≤ len ∧ pre = downF len k) ∧ Jx pre W')) := by
  refine callsIn_of_wp Tryd.func61 rfl hf ?_ hro
  simp only [Tryd.ntmps61, List.size_toArray, List.length_cons, List.length_nil, Nat.reduceAdd, Nat.reduceSub, Array.replicate_succ, Array.replicate_zero, List.push_toArray, List.append_toArray, List.nil_append, List.cons_append]
  gi_wp2
  gi_loopw [3] (fun i wr => ∃ k : Nat, k ≤ len ∧ i = .int .i64 ((len : Int) - 1 - (k : Int)) ∧ Hid (J (downF len k) wr) ∧ Hid (KpX X W wr))
    (fun i _ => (intOf i + 1).toNat)
  case atStart => exact ⟨0, Nat.zero_le _, by simp, Lib.hid h0, Lib.hid (KpX.refl _ _)⟩
  case round =>
    obtain ⟨k, hk, rfl, hJs, hnx⟩ := hrel
    have c1 := (World.cell?_of_block (w := W) (a := ⟨Bs, 0, none⟩) (hnx.out Bs hX1)).trans hBs
    by_cases hlt : k < len
    · obtain ⟨m, hm⟩ : ∃ m : Nat, (len : Int) - 1 - (k : Int) = m := ⟨len - 1 - k, by omega⟩
      have hmk : m = len - 1 - k := by omega
      obtain ⟨x, hx⟩ : ∃ x : _root_.Fin len, x.1 = m := ⟨⟨m, by omega⟩, rfl⟩
      obtain ⟨fn, tmps, assign, body, hy, hR⟩ := hY _ x wr hJs.out (by rw [downF_len hk]; exact hlt)
      have hds : Hid (downF len (k + 1) = downF len k ++ [x]) := Lib.hid (by rw [downF_succ hlt]; congr 2; apply _root_.Fin.ext; show len - 1 - k = x.1; omega)
      have c2 := (World.cell?_of_block (w := W) (a := ⟨g, o + m * 2, none⟩) (hnx.out g hX2)).trans (hc m (by omega)).1
      have c3 := (World.cell?_of_block (w := W) (a := ⟨g, o + m * 2 + 1, none⟩) (hnx.out g hX2)).trans (hc m (by omega)).2
      dsimp only [encR, RV.v] at hy
      rw [hx] at hy
      have hm0 : m < len := by omega
      rw [hm]
      have HM := Lib.hid hmk
      clear hmk hc hBs hm hx
      gi_wp2
      refine hR.mono ?_
      rintro e W3 (⟨rfl, hJ3, hk3⟩ | ⟨rfl, hJx3⟩)
      · have HJ3 := Lib.hid hJ3
        have HK3 := Lib.hid hk3
        clear hJ3 hk3
        gi_wp2
        go_roundw
        case rel => exact ⟨k + 1, by omega, by have := HM.out; congr 1; omega, Lib.hid (by rw [hds.out]; exact HJ3.out), Lib.hid (hnx.out.trans HK3.out)⟩
        case measure => simp [intOf]
      · have HJ3 := Lib.hid hJx3
        clear hJx3
        gi_wp2
        refine bodyPost_ret (results_none rfl _ _ _) rfl ?_
        exact ⟨⟨_, rfl⟩, .inr ⟨_, ⟨k + 1, by omega, hds.out.symm⟩, HJ3.out⟩⟩
    · obtain rfl : k = len := by omega
      gi_wp2
      go_end0
      exact ⟨⟨_, rfl⟩, .inl ⟨_, rfl, hJs.out⟩⟩
set_option maxRecDepth 100000 in
set_option maxHeartbeats 1000000 in
/-- .. over a slice of nothing. -/
theorem rback0_in (F : Fence) (n : Nat) (hf : F.fn 61) (hro : F.round = none) (l Bs : Nat) (a : Option Addr) (c : Nat) {α : Type} (J : List α → World → Prop) (W : World) (hBs : W.cell? ⟨Bs, 0, none⟩ = some (.slice a 0 c)) (h0 : J [] W) :
    CallsIn F n Tryd.prog 61 #[.func (.yield l) #[] #[], .pointer (some ⟨Bs, 0, none⟩)] W fun e W' => (∃ v, e = .returned v) ∧ J [] W' := by
  refine callsIn_of_wp Tryd.func61 rfl hf ?_ hro
  simp only [Tryd.ntmps61, List.size_toArray, List.length_cons, List.length_nil, Nat.reduceAdd, Nat.reduceSub, Array.replicate_succ, Array.replicate_zero, List.push_toArray, List.append_toArray, List.nil_append, List.cons_append]
  gi_wp2
  gi_loopw [3] (fun i wr => i = .int .i64 (-1) ∧ Hid (J [] wr)) (fun _ _ => 0)
  case atStart => exact ⟨by simp, Lib.hid h0⟩
  case round =>
    obtain ⟨rfl, hJs⟩ := hrel
    gi_wp2
    go_end0
    exact ⟨⟨_, rfl⟩, hJs.out⟩
/-- What the rules' cells hold. -/
structure RCells (S : Nat → Prop) (w : World) (v : Value) (len : Nat) (mb : Nat → RV) : Prop where
  lt : len ≤ 4194304
  sh : ∃ a c, v = .slice a len c
  cs : ∀ a c, v = .slice a len c → 0 < len → ∃ g o, a = some ⟨g, o, none⟩ ∧ S g ∧ ∀ j, j < len → w.cell? ⟨g, o + j * 2, none⟩ = some (.pointer (some ⟨(mb j).p, 0, none⟩)) ∧ w.cell? ⟨g, o + j * 2 + 1, none⟩ = some (.bool (mb j).b)
theorem RCells.kept {S : Nat → Prop} {w w' : World} {v : Value} {len : Nat} {mb : Nat → RV} (h : RCells S w v len mb) (hk : ∀ k, S k → w'.heap[k]? = w.heap[k]?) : RCells S w' v len mb := by
  refine ⟨h.lt, h.sh, fun a c e hp => ?_⟩
  obtain ⟨g, o, h1, h2, h3⟩ := h.cs a c e hp
  exact ⟨g, o, h1, h2, fun j hj => ⟨(World.cell?_of_block (w := w) (a := ⟨g, o + j * 2, none⟩) (hk g h2)).trans (h3 j hj).1, (World.cell?_of_block (w := w) (a := ⟨g, o + j * 2 + 1, none⟩) (hk g h2)).trans (h3 j hj).2⟩⟩
/-- **slices.Backward over rules: its contract.** -/
theorem rback_stops (F : Fence) (n : Nat) (hf : F.fn 61) (hro : F.round = none) (hn : 1 ≤ n) (S : Nat → Prop) (Bs : Nat) (v : Value) (len : Nat) (mb : Nat → RV) (w : World) (hBs : w.cell? ⟨Bs, 0, none⟩ = some v) (hBl : Bs < w.heap.size)
    (hS : ∀ k, S k → k < w.heap.size) (h : RCells S w v len mb) :
    SeqStopsK F n Tryd.prog 61 #[.pointer (some ⟨Bs, 0, none⟩)] (fun p : _root_.Fin len => encR mb p) (KpX (fun k => k = Bs ∨ S k)) (fun ys => ys.map (·.1) = (List.range len).reverse) (fun pre => ∃ k, k ≤ len ∧ pre = downF len k) len w := fun l J Jx W hW _ _ hY h0 => by
  have hc' : W.cell? ⟨Bs, 0, none⟩ = some v := (hW.cell (p := ⟨Bs, 0, none⟩) hBl).trans hBs
  have h2 : RCells S W v len mb := h.kept (fun k hk => hW.block k (hS k hk))
  obtain ⟨a, c, rfl⟩ := h2.sh
  by_cases hl : len = 0
  · subst hl
    exact (rback0_in F n hf hro l Bs a c J W hc' h0).mono fun e W' ⟨he, hj⟩ => ⟨he, .inl ⟨[], rfl, hj⟩⟩
  · obtain ⟨g, o, rfl, hg, hcs⟩ := h2.cs a c rfl (by omega)
    refine (rback1_in F n hf hro hn l Bs g o c len mb (fun k => k = Bs ∨ S k) (Or.inl rfl) (Or.inr hg) h.lt (by omega) J Jx hY W hc' hcs h0).mono ?_
    · rintro e W' ⟨he, ⟨ys, rfl, hj⟩ | ⟨pre, hp, hj⟩⟩
      · exact ⟨he, .inl ⟨_, downF_all len, hj⟩⟩
      · exact ⟨he, .inr ⟨_, hp, hj⟩⟩
set_option maxHeartbeats 1000000 in
/-- slices.Backward: the slice is boxed; the function value captures the box. -/
theorem rbackM_any (a : Option Addr) (n c : Nat) (w : World) : Calls Tryd.prog 52 #[.slice a n c] w fun e w' => e = .returned (.func (.func 61) #[] #[.pointer (some ⟨w.heap.size, 0, none⟩)]) ∧ w' = w.alloc (.cells #[.slice a n c] 56) := by
  go_enter Tryd.func52, Tryd.ntmps52
  go_wp2_with fail
  go_ret
  exact ⟨rfl, rfl⟩
/-- The first of these rules that means what came says whether it is passed over. -/
def passL (rs : List RuleN) (g : Nat → Bool) : List Nat → Option Bool
  | [] => none
  | y :: r => if g y = true then some (!(rs.getD y ⟨[], false⟩).lets) else passL rs g r
def passB (rs : List RuleN) (g : Nat → Bool) : Bool := (passL rs g (List.range rs.length).reverse).getD false
theorem passL_cons (rs : List RuleN) (g : Nat → Bool) (y : Nat) (r : List Nat) : passL rs g (y :: r) = if g y = true then some (!(rs.getD y ⟨[], false⟩).lets) else passL rs g r := rfl
theorem passL_app {rs : List RuleN} {g : Nat → Bool} : ∀ (l r : List Nat), passL rs g (l ++ r) = (passL rs g l).or (passL rs g r)
  | [], r => by simp [passL]
  | y :: l, r => by
    rw [List.cons_append, passL_cons, passL_cons]
    by_cases h : g y = true
    · rw [if_pos h, if_pos h]; rfl
    · rw [if_neg h, if_neg h]; exact passL_app l r
theorem RulesC.rv {S : Nat → Prop} {w : World} {v : Value} {rs : List RuleN} (h : RulesC S w v rs) (hl : rs.length ≤ 4194304) : ∃ mb, RCells S w v rs.length mb ∧ ∀ k, k < rs.length → (mb k).b = (rs.getD k ⟨[], false⟩).lets := by
  obtain ⟨a, c, rfl⟩ := RowsC.shape h
  by_cases h0 : rs.length = 0
  · exact ⟨fun _ => ⟨0, false⟩, ⟨hl, ⟨_, _, rfl⟩, fun _ _ _ hp => by omega⟩, fun k hk => by omega⟩
  · obtain ⟨g, o, rfl, h2, h3, h4, h5⟩ := RulesC.at h (by omega)
    have h6 : ∀ k, ∃ p : RV, k < rs.length → (w.cell? ⟨g, o + k * 2, none⟩ = some (.pointer (some ⟨p.p, 0, none⟩)) ∧ w.cell? ⟨g, o + k * 2 + 1, none⟩ = some (.bool p.b)) ∧ p.b = (rs.getD k ⟨[], false⟩).lets := fun k => by
      by_cases hk : k < rs.length
      · obtain ⟨pb, e1, e2, e3⟩ := h5 k hk
        exact ⟨⟨pb, (rs.getD k ⟨[], false⟩).lets⟩, fun _ => ⟨⟨e1, e2⟩, rfl⟩⟩
      · exact ⟨⟨0, false⟩, fun h => absurd h hk⟩
    obtain ⟨mb, hmb⟩ := Classical.axiomOfChoice h6
    refine ⟨mb, ⟨hl, ⟨_, _, rfl⟩, fun a c e _ => ?_⟩, fun k hk => (hmb k hk).2⟩
    injection e with e1 e2 e3
    subst e1
    exact ⟨g, o, rfl, h2, fun j hj => (hmb j hj).1⟩
/-- What the rules' rows end in. -/
def endsF (rs : List RuleN) (fs : Nat → Nat → Bool) (k : Nat) : Bool := fs k (psK rs k).length
set_option maxRecDepth 100000 in
set_option maxHeartbeats 4000000 in
theorem passes_any (S : Nat → Prop) (B rb ab : Nat) (rs : List RuleN) (cb : Nat → Nat) (fs : Nat → Nat → Bool) (w : World) (hS : ∀ k, S k → k < w.heap.size) (h : RulesAt S w rb rs) (hp : PlAt w B ab rs rs.length cb fs) :
    Calls Tryd.prog 35 #[.pointer (some ⟨rb, 0, none⟩), .slice (some ⟨ab, 0, none⟩) rs.length rs.length] w fun e w' => e = .returned (.bool (passB rs (endsF rs fs))) ∧ Below w.heap.size w w' := by
  have HS := Lib.hid hS
  obtain ⟨hrb, ⟨v, hv, hr⟩, hl⟩ := h
  have hrbl := hS rb hrb
  have HPL : Hid (∀ k, k < rs.length → (psK rs k).length ≤ 4194304) := Lib.hid (fun k hk => by
    obtain ⟨a, c, rfl⟩ := RowsC.shape hr
    obtain ⟨g, o, _, _, _, _, h5⟩ := RulesC.at hr (by omega)
    obtain ⟨pb, _, _, e3⟩ := h5 k hk
    exact e3.2.2)
  obtain ⟨mb, hpc, hok⟩ := RulesC.rv hr hl
  obtain ⟨a, c, rfl⟩ := RowsC.shape hr
  have HPC := Lib.hid hpc
  have HOK := Lib.hid hok
  have HV := Lib.hid hv
  have HPP := Lib.hid hp
  have HL0 : Hid (Below w.heap.size w ((w.alloc (.cells #[.slice (some ⟨ab, 0, none⟩) rs.length rs.length] 63)).alloc (.cells #[.bool false] 4))) := Lib.hid (((Below.refl w.heap.size w).alloc (Nat.le_refl _) _).alloc (by simp) _)
  have HT := Lib.hid (two_ones w (.slice (some ⟨ab, 0, none⟩) rs.length rs.length) (.bool false) 63 4)
  have HSZ : Hid (w.heap.size + 1 < ((w.alloc (.cells #[.slice (some ⟨ab, 0, none⟩) rs.length rs.length] 63)).alloc (.cells #[.bool false] 4)).heap.size) := Lib.hid (by simp)
  clear hr hpc hok hS hv hp
  refine (callsIn_wide (n := 6)).1 (callsIn_of_wp_marks Tryd.func35 rfl trivial (wpIn_wide.2 ?_) rfl)
  simp only [Tryd.ntmps35, List.size_toArray, List.length_cons, List.length_nil, Nat.reduceAdd, Nat.reduceSub, Array.replicate_succ, Array.replicate_zero, List.push_toArray, List.append_toArray, List.nil_append, List.cons_append]
  go_upto_region 1 with fail
  generalize ((w.alloc (.cells #[.slice (some ⟨ab, 0, none⟩) rs.length rs.length] 63)).alloc (.cells #[.bool false] 4)) = wy at *
  obtain ⟨b3, hb3⟩ : ∃ q, w.heap.size = q := ⟨_, rfl⟩
  obtain ⟨b4, hb4⟩ : ∃ q, b3 + 1 = q := ⟨_, rfl⟩
  have HB3 := Lib.hid hb3
  have HB4 := Lib.hid hb4
  have ht := HT.out
  rw [hb3, hb4] at ht
  have hsz := HSZ.out
  rw [hb3, hb4] at hsz
  rw [hb3, hb4]
  have HT4 := Lib.hid ht
  have hby : b3 < wy.heap.size ∧ b4 < wy.heap.size ∧ w.heap.size ≤ b4 := by omega
  have HBY := Lib.hid hby
  clear hb3 hb4 HT HSZ ht hsz hby
  have cp := (World.cell?_of_block (w := w) (a := ⟨rb, 0, none⟩) (HL0.out.block rb hrbl)).trans HV.out
  go_upto_region 2 with (go_at_call 52; refine (rbackM_any _ _ _ _).mono ?_; rintro e w2 ⟨rfl, rfl⟩)
  refine rf_enter ?_
  intro tm htm
  have HTM := Lib.hid htm
  clear htm
  have hbox : (wy.alloc (.cells #[.slice a rs.length c] 56)).cell? ⟨wy.heap.size, 0, none⟩ = some (.slice a rs.length c) := cell_of_one (new_five _ _ _)
  refine (wpIn_wide (n := 6)).1 ?_
  have hgs := HL0.out.size
  obtain ⟨A0, hA0⟩ : ∃ A0 : World, wy.alloc (.cells #[.slice a rs.length c] 56) = A0 := ⟨_, rfl⟩
  have hA1 : wy.heap.size + 1 ≤ A0.heap.size := by rw [← hA0]; simp
  have hA2 : Below wy.heap.size wy A0 := by rw [← hA0]; exact (Below.refl _ wy).alloc (Nat.le_refl _) _
  have hPC : RCells S A0 (.slice a rs.length c) rs.length mb := HPC.out.kept (fun q hq => (hA2.block q (Nat.lt_of_lt_of_le (HS.out q hq) hgs)).trans (HL0.out.block q (HS.out q hq)))
  have hSA : ∀ q, S q → q < A0.heap.size := fun q hq => by have := HS.out q hq; omega
  rw [hA0] at hbox ⊢
  clear hA0
  refine wpIn_rangeFunc_ownH rfl (by omega) (gf := 61) (lb := #[.pointer (some ⟨wy.heap.size, 0, none⟩)]) (by rw [HTM.out]; rfl) trivial (enters_of Tryd.func61 (by kernel_rfl) rfl)
    (rback_stops Fence.wide (6 - 1) trivial rfl (by omega) S wy.heap.size (.slice a rs.length c) rs.length mb A0 hbox (by omega) hSA hPC)
    KpX.trans (fun W l o o' h1 h2 h3 h4 => KpX.putObj (n := A0.heap.size) (fun q hq => hq.elim (fun e => by omega) (fun e => hSA q e)) W l o o' h1 h2 h3 h4) (Below.refl _ _) (fun _ => rfl)
    (fun (pre : List (_root_.Fin rs.length)) W => passL rs (endsF rs fs) (pre.map (fun y => y.1)) = none ∧ Below wy.heap.size wy W ∧ A0.heap.size ≤ W.heap.size) (fun cc pre W => cc = .ret ∧ ∃ r, passL rs (endsF rs fs) (pre.map (fun y => y.1)) = some r ∧ W.cell? ⟨b4, 0, none⟩ = some (.bool r) ∧ Below w.heap.size w W ∧ A0.heap.size ≤ W.heap.size)
    (fun _ _ _ _ h hg hr => ⟨h.1, h.2.1.grown hg h.2.1.size (fun r e => by have := (hr r e).1; omega), Nat.le_trans h.2.2 hg.size⟩) ?ix ⟨rfl, hA2, Nat.le_refl _⟩
    (fun y a' W => ∃ bx, A0.heap.size ≤ bx ∧ W.heap[bx]? = some (.cells #[.pointer (some ⟨(mb y.1).p, 0, none⟩), .bool (mb y.1).b] 62 (0, 0)) ∧ a' = ⟨((((tm.setIfInBounds 13 (mb y.1).v).setIfInBounds 12 (.int .i64 (y.1 : Int))).setIfInBounds 5 (.int .i64 (y.1 : Int))).setIfInBounds 6 (.pointer (some ⟨bx, 0, none⟩))), []⟩)
    ?ax ?assign ?body ?done ?stop
  case ix =>
    rintro cc pre W W' row ⟨h1, r, h2, h3, h4, h5⟩ hg hr
    refine ⟨h1, r, h2, (World.cell?_of_block (w := W) (a := ⟨b4, 0, none⟩) (hg.block b4 (by have := HBY.out; omega) (fun e => by have := (hr b4 e.symm).1; have := HBY.out; omega))).trans h3, h4.grown hg h4.size (fun r e => by have := (hr r e).1; have := HBY.out; omega), Nat.le_trans h5 hg.size⟩
  case ax =>
    rintro y a' _ W W' row ⟨bx, h1, h2, h3⟩ hg hr
    refine ⟨bx, h1, (hg.block bx (Array.getElem?_eq_some_iff.1 h2).1 (fun e => ?_)).trans h2, h3⟩
    obtain ⟨_, o, h4, h5⟩ := hr bx e.symm
    rw [h2] at h4
    injection h4 with h4
    rw [← h4] at h5; cases h5
  case assign =>
    intro l2 pre y W K2 hIW hK2
    have htm := HTM.out
    subst htm
    simp only [List.setIfInBounds_toArray, List.set_cons_succ, List.set_cons_zero] at hK2
    gi_wp2
    refine hK2 _ _ ⟨by simp, fun k o _ hk _ => ?_⟩ (fun k hk => Below.heap_alloc _ _ _ ?_) ⟨hIW.1, hIW.2.1.alloc hIW.2.1.size _, by simp; have := hIW.2.2; omega⟩ ⟨W.heap.size, hIW.2.2, new_five _ _ _, rfl⟩
    · exact (Below.heap_alloc _ _ _ (Array.getElem?_eq_some_iff.1 hk).1).trans hk
    · have := hIW.2.2
      rcases hk with rfl | hk
      · omega
      · have := hSA k hk; omega
  case body =>
    rintro l2 pre y a' W hl2 _ hI ⟨bx, hbx, hbk, rfl⟩ hlen
    have htm := HTM.out
    subst htm
    simp only [List.setIfInBounds_toArray, List.set_cons_succ, List.set_cons_zero]
    obtain ⟨j, hj⟩ : ∃ j, y.1 = j := ⟨_, rfl⟩
    have hjl : j < rs.length := by have := y.2; omega
    rw [hj] at hbk ⊢
    have HJ := Lib.hid hj
    have hby := HBY.out
    have c3 := cell0 ((hI.2.1.block b3 hby.1).trans HT4.out.1)
    have c4 := cell0 ((hI.2.1.block b4 hby.2.1).trans HT4.out.2)
    have f4 := frozen_box ((hI.2.1.block b4 hby.2.1).trans HT4.out.2) 0
    have HWB : Hid (Below w.heap.size w W) := Lib.hid (HL0.out.trans (hI.2.1.mono HL0.out.size))
    have HPW : Hid (PlAt W B ab rs rs.length cb fs) := Lib.hid (HPP.out.kept (fun q hq _ => HWB.out.block q hq) HWB.out.size)
    have e0 := HPW.out.cs j hjl
    have HEN := Lib.hid (end_any (cb j) (psK rs j).length (fs j) W (HPL.out j hjl) (HPW.out.bits j hjl))
    obtain ⟨q0, hq0⟩ : ∃ q, fs j (psK rs j).length = q := ⟨_, rfl⟩
    rw [hq0] at HEN
    have HQ0 : Hid (endsF rs fs j = q0) := Lib.hid hq0
    have HLE : Hid ((mb j).b = (rs.getD j ⟨[], false⟩).lets) := Lib.hid (HOK.out j hjl)
    have HBK := Lib.hid hbk
    have HI := Lib.hid hI
    have hWS := hI.2.2
    have hbW : bx < W.heap.size := (Array.getElem?_eq_some_iff.1 hbk).1
    have hbW4 : b4 < W.heap.size := by omega
    clear hj hq0 hbk hI
    generalize hlj : (psK rs j).length = lj at *
    gi_wp2
    refine ⟨trivial, CallsIn.inRound l2 (callsIn_wide.2 (HEN.out.mono ?_))⟩
    rintro e W2 ⟨rfl, hb2⟩
    have d1 : W2.cell? ⟨bx, 1, none⟩ = some (.bool (mb j).b) := by
      have := (hb2.block bx hbW).trans HBK.out
      rw [cell_of_row _ _ _ _ _ _ this]; rfl
    have k4 := (World.cell?_of_block (w := W) (a := ⟨b4, 0, none⟩) (hb2.block b4 hbW4)).trans c4
    have z4 := (World.frozen?_of_block (w := W) (a := ⟨b4, 0, none⟩) (hb2.block b4 hbW4)).trans f4
    rw [HLE.out] at d1
    have HB2 := Lib.hid hb2
    clear c3 c4 f4 e0 HEN hb2
    cases q0
    · gi_wp2
      refine ⟨KeepsFrom.of_grownBy (row := none) ⟨HB2.out.os, HB2.out.tape, HB2.out.output, HB2.out.size, fun q hq _ => HB2.out.block q hq⟩ (fun j e => by cases e), fun k hk => HB2.out.block k (Nat.lt_of_lt_of_le (by rcases hk with rfl | hk; omega; exact hSA k hk) hWS), ?_, HI.out.2.1.trans (HB2.out.mono HI.out.2.1.size), Nat.le_trans hWS HB2.out.size⟩
      rw [List.map_append, List.map_singleton, passL_app, HI.out.1, HJ.out, passL_cons, HQ0.out]
      rfl
    · generalize hle : (rs.getD j ⟨[], false⟩).lets = lt at *
      have HLT := Lib.hid hle
      clear hle
      gi_wp2
      have hg3 := gb_set W2 b4 0 (.bool !lt)
      refine ⟨(KeepsFrom.of_grownBy (row := none) ⟨HB2.out.os, HB2.out.tape, HB2.out.output, HB2.out.size, fun q hq _ => HB2.out.block q hq⟩ (fun j e => by cases e)).trans (KeepsFrom.of_grownBy hg3 (fun j e => by injection e with e; omega)), rfl, !lt, ?_, World.cell?_setCell_same _ _ _ k4, (HWB.out.trans (HB2.out.mono HWB.out.size)).setCell (by show w.heap.size ≤ b4; omega) _, by simp; exact Nat.le_trans hWS HB2.out.size⟩
      rw [List.map_append, List.map_singleton, passL_app, HI.out.1, HJ.out, passL_cons, HQ0.out, HLT.out]
      rfl
  case done =>
    rintro Dd ys W hDd hys hI hK
    have hby := HBY.out
    have k4 := cell0 ((hI.2.1.block b4 hby.2.1).trans HT4.out.2)
    have z4 := frozen_box ((hI.2.1.block b4 hby.2.1).trans HT4.out.2) 0
    have HI := Lib.hid hI
    have HDD : Hid (W.heap[Dd]? = some (.deferred (some [])) ∧ A0.heap.size ≤ Dd) := Lib.hid ⟨hK, hDd⟩
    have HYS := Lib.hid hys
    clear hI hK hys
    have htm := HTM.out
    subst htm
    go_wp2_with fail
    have hK3 : (W.setCell ⟨b4, 0, none⟩ (.bool false)).heap[Dd]? = some (.deferred (some [])) := (Below.heap_setCell _ _ _ _ (by show Dd ≠ b4; have := HDD.out.2; omega)).trans HDD.out.1
    have r4 : ((W.setCell ⟨b4, 0, none⟩ (.bool false)).putObj Dd (.deferred none)).cell? ⟨b4, 0, none⟩ = some (.bool false) := (World.cell?_of_block (w := W.setCell ⟨b4, 0, none⟩ (.bool false)) (a := ⟨b4, 0, none⟩) (World.putObj_heap_other (by show b4 ≠ Dd; have := HDD.out.2; omega))).trans (World.cell?_setCell_same _ _ _ k4)
    have hpb : passB rs (endsF rs fs) = false := by
      unfold passB
      have := HI.out.1
      rw [HYS.out] at this
      rw [this]; rfl
    have hb2 := (HL0.out.trans (HI.out.2.1.mono HL0.out.size)).setCell (p := ⟨b4, 0, none⟩) hby.2.2 (.bool false)
    refine ⟨by simp, .inl ⟨_, _, rfl, run_takeDeferred hK3, ?_⟩⟩
    refine ⟨.bool false, by simp [results, Tryd.results35, go_sem, r4], by rw [hpb], ?_⟩
    exact hb2.grown (grownBy_putObj' _ Dd _) hb2.size (fun r e => by injection e with e; have := HDD.out.2; omega)
  case stop =>
    rintro Dd cc pre W hDd hSp ⟨rfl, r, hpl, hc4, hbW, hsW⟩ hK
    obtain ⟨k, hk, rfl⟩ := hSp
    have hby := HBY.out
    have htm := HTM.out
    subst htm
    gi_wp2
    have r4 : (W.putObj Dd (.deferred none)).cell? ⟨b4, 0, none⟩ = some (.bool r) := (World.cell?_of_block (w := W) (a := ⟨b4, 0, none⟩) (World.putObj_heap_other (by show b4 ≠ Dd; omega))).trans hc4
    have hpb : passB rs (endsF rs fs) = r := by
      unfold passB
      have e1 : (List.range rs.length).reverse = (downF rs.length k).map (fun y => y.1) ++ (((List.finRange rs.length).reverse).drop k).map (fun y => y.1) := by
        rw [← downF_all, ← List.map_append]
        unfold downF
        rw [List.take_append_drop, List.take_of_length_le (by simp)]
      rw [e1, passL_app, hpl]; rfl
    refine ⟨by simp, .inl ⟨_, _, rfl, run_takeDeferred hK, ?_⟩⟩
    refine ⟨.bool r, by simp [results, Tryd.results35, go_sem, r4], by rw [hpb], ?_⟩
    exact hbW.grown (grownBy_putObj' _ Dd _) hbW.size (fun r e => by injection e with e; omega)
end Go.Proofs.YthigepjddfdbmaaDoor
