/- The library's iterator over the pieces from their end; one step. Mathematics and contract. -/
import Derived.Test.YthigepjddfdbmaaDoorGlobI
import Derived.RangeFuncNested
import Derived.RangeFuncBound
import Derived.RangeFuncCalls
import Derived.RangeFuncLeaves
import Derived.Shelf.Abstract
import Derived.Shelf.RegionOpen
import Derived.OwnWalkIn
import Derived.TacticsInMore
import Derived.LoopNIn
import Derived.LoopIn
import Derived.Outline
namespace Go.Proofs.YthigepjddfdbmaaDoor
open Go.RowKit Go.Shelf Go.Lib
attribute [local go_sem] Oper.semAt_some

/-- What a round keeps: these blocks. -/
def KpX (X : Nat → Prop) (W W' : World) : Prop := ∀ k, X k → W'.heap[k]? = W.heap[k]?
theorem KpX.refl (X : Nat → Prop) (W : World) : KpX X W W := fun _ _ => rfl
theorem KpX.trans {X : Nat → Prop} {A B C : World} (h : KpX X A B) (k : KpX X B C) : KpX X A C := fun i hi => (k i hi).trans (h i hi)
theorem KpX.putObj {X : Nat → Prop} {n : Nat} (hX : ∀ k, X k → k < n) (W : World) (l : Nat) (o o' : Obj) (hl : n ≤ l) (_ : W.heap[l]? = some o) (_ : o.isCells = false) (_ : o.isWalk = false) : KpX X W (W.putObj l o') :=
  fun k hk => World.putObj_heap_other (by have := hX k hk; omega)
/-- The places from the last one down. -/
def downF (n k : Nat) : List (_root_.Fin n) := ((List.finRange n).reverse).take k
theorem downF_len {n k : Nat} (h : k ≤ n) : (downF n k).length = k := by unfold downF; simp; omega
theorem downF_succ {n k : Nat} (h : k < n) : downF n (k + 1) = downF n k ++ [⟨n - 1 - k, by omega⟩] := by
  unfold downF
  rw [List.take_succ_eq_append_getElem (by simpa using h)]
  congr 2
  rw [List.getElem_reverse]
  apply _root_.Fin.ext
  simp
theorem downF_all (n : Nat) : (downF n n).map (·.1) = (List.range n).reverse := by
  unfold downF
  rw [List.take_of_length_le (by simp)]
  apply List.ext_getElem
  · simp
  · intro i h1 h2
    simp
/-- What a piece's cells hold. -/
structure PV where
  b : Bool
  a : Option Addr
  n : Nat
  c : Nat
abbrev PV.v (p : PV) : Value := .agg #[.bool p.b, .slice p.a p.n p.c]
abbrev encB (mb : Nat → PV) {n : Nat} (p : _root_.Fin n) : Array Value := #[.int .i64 (p.1 : Int), (mb p.1).v]
set_option maxRecDepth 100000 in
set_option maxHeartbeats 2000000 in
theorem back1_in (F : Fence) (n : Nat) (hf : F.fn 59) (hro : F.round = none) (hn : 1 ≤ n) (l Bs g o c len : Nat) (mb : Nat → PV) (X : Nat → Prop) (hX1 : X Bs) (hX2 : X g) (hlen : len ≤ 4194304) (hpos : 0 < len) (J Jx : List (_root_.Fin len) → World → Prop)
    (hY : ∀ pre x W, J pre W → pre.length < len → YieldAt F (n - 1) Tryd.prog l (encB mb x) W fun e W' =>
      (e = .returned (.bool true) ∧ J (pre ++ [x]) W' ∧ KpX X W W') ∨ (e = .returned (.bool false) ∧ Jx (pre ++ [x]) W'))
    (W : World) (hBs : W.cell? ⟨Bs, 0, none⟩ = some (.slice (some ⟨g, o, none⟩) len c)) (hc : ∀ j, j < len → W.cell? ⟨g, o + j * 2, none⟩ = some (.bool (mb j).b) ∧ W.cell? ⟨g, o + j * 2 + 1, none⟩ = some (.slice (mb j).a (mb j).n (mb j).c)) (h0 : J [] W) :
    CallsIn F n Tryd.prog 59 #[.func (.yield l) #[] #[], .pointer (some ⟨Bs, 0, none⟩)] W fun e W' => (∃ v, e = .returned v) ∧
      ((∃ ys, ys = downF len len ∧ J ys W') ∨ (∃ pre, (∃ k, k ≤ len ∧ pre = downF len k) ∧ Jx pre W')) := by
  refine callsIn_of_wp Tryd.func59 rfl hf ?_ hro
  simp only [Tryd.ntmps59, List.size_toArray, List.length_cons, List.length_nil, Nat.reduceAdd, Nat.reduceSub, Array.replicate_succ, Array.replicate_zero, List.push_toArray, List.append_toArray, List.nil_append, List.cons_append]
  gi_wp2
  gi_loopw [3] (fun i wr => ∃ k : Nat, k ≤ len ∧ i = .int .i64 ((len : Int) - 1 - (k : Int)) ∧ Hid (J (downF len k) wr) ∧ Hid (KpX X W wr))
    (fun i _ => (intOf i + 1).toNat)
  case atStart => exact ⟨0, Nat.zero_le _, by simp, Lib.hid h0, Lib.hid (KpX.refl _ _)⟩
  case round =>
    obtain ⟨k, hk, rfl, hJs, hnx⟩ := hrel
    have c1 := (World.cell?_of_block (w := W) (a := ⟨Bs, 0, none⟩) (hnx.out Bs hX1)).trans hBs
    by_cases hlt : k < len
    · obtain ⟨m, hm⟩ : ∃ m : Nat, (len : Int) - 1 - (k : Int) = m := ⟨len - 1 - k, by omega⟩
      have hmk : m = len - 1 - k := by omega
      obtain ⟨x, hx⟩ : ∃ x : _root_.Fin len, x.1 = m := ⟨⟨m, by omega⟩, rfl⟩
      obtain ⟨fn, tmps, assign, body, hy, hR⟩ := hY _ x wr hJs.out (by rw [downF_len hk]; exact hlt)
      have hds : Hid (downF len (k + 1) = downF len k ++ [x]) := Lib.hid (by rw [downF_succ hlt]; congr 2; apply _root_.Fin.ext; show len - 1 - k = x.1; omega)
      have c2 := (World.cell?_of_block (w := W) (a := ⟨g, o + m * 2, none⟩) (hnx.out g hX2)).trans (hc m (by omega)).1
      have c3 := (World.cell?_of_block (w := W) (a := ⟨g, o + m * 2 + 1, none⟩) (hnx.out g hX2)).trans (hc m (by omega)).2
      dsimp only [encB, PV.v] at hy
      rw [hx] at hy
      have hm0 : m < len := by omega
      rw [hm]
      have HM := Lib.hid hmk
      clear hmk hc hBs hm hx
      gi_wp2
      refine hR.mono ?_
      rintro e W3 (⟨rfl, hJ3, hk3⟩ | ⟨rfl, hJx3⟩)
      · have HJ3 := Lib.hid hJ3
        have HK3 := Lib.hid hk3
        clear hJ3 hk3
        gi_wp2
        go_roundw
        case rel => exact ⟨k + 1, by omega, by have := HM.out; congr 1; omega, Lib.hid (by rw [hds.out]; exact HJ3.out), Lib.hid (hnx.out.trans HK3.out)⟩
        case measure => simp [intOf]
      · have HJ3 := Lib.hid hJx3
        clear hJx3
        gi_wp2
        refine bodyPost_ret (results_none rfl _ _ _) rfl ?_
        exact ⟨⟨_, rfl⟩, .inr ⟨_, ⟨k + 1, by omega, hds.out.symm⟩, HJ3.out⟩⟩
    · obtain rfl : k = len := by omega
      gi_wp2
      go_end0
      exact ⟨⟨_, rfl⟩, .inl ⟨_, rfl, hJs.out⟩⟩
set_option maxRecDepth 100000 in
set_option maxHeartbeats 1000000 in
/-- .. over a slice of nothing. -/
theorem back0_in (F : Fence) (n : Nat) (hf : F.fn 59) (hro : F.round = none) (l Bs : Nat) (a : Option Addr) (c : Nat) {α : Type} (J : List α → World → Prop) (W : World) (hBs : W.cell? ⟨Bs, 0, none⟩ = some (.slice a 0 c)) (h0 : J [] W) :
    CallsIn F n Tryd.prog 59 #[.func (.yield l) #[] #[], .pointer (some ⟨Bs, 0, none⟩)] W fun e W' => (∃ v, e = .returned v) ∧ J [] W' := by
  refine callsIn_of_wp Tryd.func59 rfl hf ?_ hro
  simp only [Tryd.ntmps59, List.size_toArray, List.length_cons, List.length_nil, Nat.reduceAdd, Nat.reduceSub, Array.replicate_succ, Array.replicate_zero, List.push_toArray, List.append_toArray, List.nil_append, List.cons_append]
  gi_wp2
  gi_loopw [3] (fun i wr => i = .int .i64 (-1) ∧ Hid (J [] wr)) (fun _ _ => 0)
  case atStart => exact ⟨by simp, Lib.hid h0⟩
  case round =>
    obtain ⟨rfl, hJs⟩ := hrel
    gi_wp2
    go_end0
    exact ⟨⟨_, rfl⟩, hJs.out⟩
/-- What the pieces' cells hold. -/
structure PCells (S : Nat → Prop) (w : World) (v : Value) (len : Nat) (mb : Nat → PV) : Prop where
  lt : len ≤ 4194304
  sh : ∃ a c, v = .slice a len c
  cs : ∀ a c, v = .slice a len c → 0 < len → ∃ g o, a = some ⟨g, o, none⟩ ∧ S g ∧ ∀ j, j < len → w.cell? ⟨g, o + j * 2, none⟩ = some (.bool (mb j).b) ∧ w.cell? ⟨g, o + j * 2 + 1, none⟩ = some (.slice (mb j).a (mb j).n (mb j).c)
theorem PCells.kept {S : Nat → Prop} {w w' : World} {v : Value} {len : Nat} {mb : Nat → PV} (h : PCells S w v len mb) (hk : ∀ k, S k → w'.heap[k]? = w.heap[k]?) : PCells S w' v len mb := by
  refine ⟨h.lt, h.sh, fun a c e hp => ?_⟩
  obtain ⟨g, o, h1, h2, h3⟩ := h.cs a c e hp
  exact ⟨g, o, h1, h2, fun j hj => ⟨(World.cell?_of_block (w := w) (a := ⟨g, o + j * 2, none⟩) (hk g h2)).trans (h3 j hj).1, (World.cell?_of_block (w := w) (a := ⟨g, o + j * 2 + 1, none⟩) (hk g h2)).trans (h3 j hj).2⟩⟩
/-- **slices.Backward over pieces: its contract.** -/
theorem back_stops (F : Fence) (n : Nat) (hf : F.fn 59) (hro : F.round = none) (hn : 1 ≤ n) (S : Nat → Prop) (Bs : Nat) (v : Value) (len : Nat) (mb : Nat → PV) (w : World) (hBs : w.cell? ⟨Bs, 0, none⟩ = some v) (hBl : Bs < w.heap.size)
    (hS : ∀ k, S k → k < w.heap.size) (h : PCells S w v len mb) :
    SeqStopsK F n Tryd.prog 59 #[.pointer (some ⟨Bs, 0, none⟩)] (fun p : _root_.Fin len => encB mb p) (KpX (fun k => k = Bs ∨ S k)) (fun ys => ys.map (·.1) = (List.range len).reverse) (fun _ => True) len w := fun l J Jx W hW _ _ hY h0 => by
  have hc' : W.cell? ⟨Bs, 0, none⟩ = some v := (hW.cell (p := ⟨Bs, 0, none⟩) hBl).trans hBs
  have h2 : PCells S W v len mb := h.kept (fun k hk => hW.block k (hS k hk))
  obtain ⟨a, c, rfl⟩ := h2.sh
  by_cases hl : len = 0
  · subst hl
    exact (back0_in F n hf hro l Bs a c J W hc' h0).mono fun e W' ⟨he, hj⟩ => ⟨he, .inl ⟨[], rfl, hj⟩⟩
  · obtain ⟨g, o, rfl, hg, hcs⟩ := h2.cs a c rfl (by omega)
    refine (back1_in F n hf hro hn l Bs g o c len mb (fun k => k = Bs ∨ S k) (Or.inl rfl) (Or.inr hg) h.lt (by omega) J Jx hY W hc' hcs h0).mono ?_
    · rintro e W' ⟨he, ⟨ys, rfl, hj⟩ | ⟨pre, _, hj⟩⟩
      · exact ⟨he, .inl ⟨_, downF_all len, hj⟩⟩
      · exact ⟨he, .inr ⟨_, trivial, hj⟩⟩
set_option maxHeartbeats 1000000 in
/-- slices.Backward: the slice is boxed; the function value captures the box. -/
theorem backM_any (a : Option Addr) (n c : Nat) (w : World) : Calls Tryd.prog 49 #[.slice a n c] w fun e w' => e = .returned (.func (.func 59) #[] #[.pointer (some ⟨w.heap.size, 0, none⟩)]) ∧ w' = w.alloc (.cells #[.slice a n c] 44) := by
  go_enter Tryd.func49, Tryd.ntmps49
  go_wp2_with fail
  go_ret
  exact ⟨rfl, rfl⟩
/-- What one place makes of the row, on the way back. -/
noncomputable def meansAt (ps : List PieceN) (x : Txt) (j : Nat) : Bool := match ps.getD j none with
  | none => false
  | some l => meansB l x
noncomputable def stepF (ps : List PieceN) (x : Txt) (h : Nat → Bool) (j : Nat) : Nat → Bool := if h j = false ∨ manyB ps j = true then h else fun p => if p = j + 1 ∧ meansAt ps x j = true then true else if p = j then false else h p
noncomputable def stepsF (ps : List PieceN) (x : Txt) (f : Nat → Bool) (l : List Nat) : Nat → Bool := l.foldl (stepF ps x) f
theorem stepsF_snoc (ps : List PieceN) (x : Txt) (f : Nat → Bool) (l : List Nat) (j : Nat) : stepsF ps x f (l ++ [j]) = stepF ps x (stepsF ps x f l) j := by unfold stepsF; rw [List.foldl_append]; rfl
def leftB (ps : List PieceN) (f : Nat → Bool) (p : Nat) : Bool := decide (p < ps.length) && (manyB ps p && f p)
noncomputable def midB (ps : List PieceN) (x : Txt) (f : Nat → Bool) (p : Nat) : Bool := leftB ps f p || (match p with
  | 0 => false
  | q + 1 => !manyB ps q && (f q && meansAt ps x q))
noncomputable def stF (ps : List PieceN) (x : Txt) (f : Nat → Bool) (k p : Nat) : Bool := if k < p then midB ps x f p else if p = k then leftB ps f p else f p
theorem midB_succ (ps : List PieceN) (x : Txt) (f : Nat → Bool) (q : Nat) : midB ps x f (q + 1) = (leftB ps f (q + 1) || (!manyB ps q && (f q && meansAt ps x q))) := rfl
theorem stF_step {ps : List PieceN} {x : Txt} {f : Nat → Bool} {k : Nat} (hk : k < ps.length) : stepF ps x (stF ps x f (k + 1)) k = stF ps x f k := by
  funext p
  have e0 : stF ps x f (k + 1) k = f k := by unfold stF; rw [if_neg (by omega), if_neg (by omega)]
  unfold stepF
  rw [e0]
  have hl : leftB ps f k = (manyB ps k && f k) := by unfold leftB; simp [hk]
  by_cases h : f k = false ∨ manyB ps k = true
  · rw [if_pos h]
    unfold stF
    by_cases h1 : k + 1 < p
    · rw [if_pos h1, if_pos (by omega)]
    · rw [if_neg h1]
      by_cases h2 : p = k + 1
      · subst h2
        rw [if_pos rfl, if_pos (by omega), midB_succ]
        rcases h with h | h <;> rw [h] <;> simp
      · rw [if_neg h2]
        by_cases h3 : p = k
        · subst h3
          rw [if_neg (by omega), if_pos rfl, hl]
          rcases h with h | h <;> rw [h] <;> simp
        · rw [if_neg (by omega), if_neg h3]
  · rw [if_neg h]
    have h1 : f k = true := by cases hf : f k with
      | false => exact absurd (Or.inl hf) h
      | true => rfl
    have h2 : manyB ps k = false := by cases hm : manyB ps k with
      | true => exact absurd (Or.inr hm) h
      | false => rfl
    unfold stF
    by_cases e1 : p = k + 1
    · subst e1
      rw [if_pos (by omega : k < k + 1), midB_succ, h1, h2]
      by_cases e2 : meansAt ps x k = true
      · rw [if_pos ⟨rfl, e2⟩, e2]; simp
      · rw [if_neg (fun c => e2 c.2), if_neg (by omega), if_neg (by omega), if_pos rfl]
        have : meansAt ps x k = false := by simpa using e2
        rw [this]; simp
    · rw [if_neg (fun c => e1 c.1)]
      by_cases e3 : p = k
      · subst e3
        rw [if_pos rfl, if_neg (by omega), if_pos rfl, hl, h2]; simp
      · rw [if_neg e3]
        by_cases e4 : k < p
        · rw [if_pos e4, if_pos (by omega)]
        · rw [if_neg e4, if_neg (by omega), if_neg e3, if_neg e1]
theorem stepsF_all {ps : List PieceN} {x : Txt} {f : Nat → Bool} : ∀ k, k ≤ ps.length → stepsF ps x (stF ps x f k) ((List.range k).reverse) = stF ps x f 0
  | 0, _ => rfl
  | k + 1, h => by
    rw [List.range_succ, List.reverse_append]
    show stepsF ps x (stepF ps x (stF ps x f (k + 1)) k) ((List.range k).reverse) = _
    rw [stF_step (by omega)]
    exact stepsF_all k (by omega)
theorem stF_zero (ps : List PieceN) (x : Txt) (f : Nat → Bool) (p : Nat) : stF ps x f 0 p = midB ps x f p := by
  unfold stF
  by_cases h : 0 < p
  · rw [if_pos h]
  · obtain rfl : p = 0 := by omega
    rw [if_neg h, if_pos rfl]; unfold midB; simp
theorem stF_start (ps : List PieceN) (x : Txt) (f : Nat → Bool) {p : Nat} (h : p < ps.length + 1) : stF ps x f ps.length p = (if p = ps.length then false else f p) := by
  unfold stF
  rw [if_neg (by omega)]
  by_cases e : p = ps.length
  · rw [if_pos e, if_pos e]; unfold leftB; rw [e]; simp
  · rw [if_neg e, if_neg e]
theorem midB_iff {ps : List PieceN} {x : Txt} {l : List Txt} {f : Nat → Bool} (hf : StandF ps l f) (i : Nat) (hi : i ≤ ps.length) : midB ps x f i = true ↔ Mid (itemsP ps) (Stand (itemsP ps) l) x i := by
  have h1 : leftB ps f i = true ↔ ((itemsP ps)[i]? = some none ∧ Stand (itemsP ps) l i) := by
    unfold leftB
    rw [← hf i hi]
    by_cases h : i < ps.length
    · rw [many_iff h]; simp [h]
    · have : (itemsP ps)[i]? = none := by rw [List.getElem?_eq_none_iff, itemsP_len]; omega
      rw [this]; simp [h]
  unfold Mid
  rw [← h1]
  cases i with
  | zero =>
    unfold midB
    simp
  | succ q =>
    rw [midB_succ, Bool.or_eq_true]
    have hq : q < ps.length := by omega
    refine or_congr Iff.rfl ?_
    have hx := itemsP_at hq
    have hs := hf q (by omega)
    unfold manyB meansAt
    cases hp : ps.getD q none with
    | none =>
      rw [hp] at hx
      simp only [Option.map_none] at hx
      constructor
      · intro h; simp at h
      · rintro ⟨j, g, e, h2, _⟩
        obtain rfl : q = j := by omega
        rw [hx] at h2; cases h2
    | some m =>
      rw [hp] at hx
      simp only [Option.map_some] at hx
      constructor
      · intro h
        simp at h
        exact ⟨q, meansB m, rfl, hx, hs.1 h.1, h.2⟩
      · rintro ⟨j, g, e, h2, h3, h4⟩
        obtain rfl : q = j := by omega
        rw [hx] at h2
        injection h2 with h2
        injection h2 with h2
        subst h2
        simp
        exact ⟨hs.2 h3, h4⟩
/-- What pass makes of what the way back leaves. -/
theorem step_stand {ps : List PieceN} {x : Txt} {l : List Txt} {f : Nat → Bool} (hf : StandF ps l f) : StandF ps (l ++ [x]) (finB ps (stF ps x f 0)) := fun i hi => by
  rw [finB_iff (m := Mid (itemsP ps) (Stand (itemsP ps) l) x) (fun i hi => by rw [stF_zero]; exact midB_iff hf i hi) i hi]
  exact fin_step i (by rw [itemsP_len]; exact hi)
end Go.Proofs.YthigepjddfdbmaaDoor
