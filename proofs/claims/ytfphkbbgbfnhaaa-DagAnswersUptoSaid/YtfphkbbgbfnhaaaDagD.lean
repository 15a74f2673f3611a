/- The library's iterator over a slice from its end: its contract for every loop body. -/
import Derived.Test.YtfphkbbgbfnhaaaDagC
import Derived.RangeFuncNested
import Derived.RangeFuncBound
import Derived.RangeFuncCalls
import Derived.RangeFuncLeaves
import Derived.Shelf.Abstract
import Derived.Shelf.RegionOpen
import Derived.OwnWalkIn
import Derived.TacticsInMore
import Derived.LoopNIn
import Derived.LoopIn
import Derived.Outline
namespace Go.Proofs.Ytfphkbbgbfnhaaa
open Go.RowKit Go.Shelf
attribute [local go_sem] Oper.semAt_some

/-- What a round keeps: these blocks. -/
def KpX (X : Nat → Prop) (W W' : World) : Prop := ∀ k, X k → W'.heap[k]? = W.heap[k]?
theorem KpX.refl (X : Nat → Prop) (W : World) : KpX X W W := fun _ _ => rfl
theorem KpX.trans {X : Nat → Prop} {A B C : World} (h : KpX X A B) (k : KpX X B C) : KpX X A C := fun i hi => (k i hi).trans (h i hi)
theorem KpX.putObj {X : Nat → Prop} {n : Nat} (hX : ∀ k, X k → k < n) (W : World) (l : Nat) (o o' : Obj) (hl : n ≤ l) (_ : W.heap[l]? = some o) (_ : o.isCells = false) (_ : o.isWalk = false) : KpX X W (W.putObj l o') :=
  fun k hk => World.putObj_heap_other (by have := hX k hk; omega)
/-- The places from the last one down. -/
def downF (n k : Nat) : List (Fin n) := ((List.finRange n).reverse).take k
theorem downF_len {n k : Nat} (h : k ≤ n) : (downF n k).length = k := by unfold downF; simp; omega
theorem downF_succ {n k : Nat} (h : k < n) : downF n (k + 1) = downF n k ++ [⟨n - 1 - k, by omega⟩] := by
  unfold downF
  rw [List.take_succ_eq_append_getElem (by simpa using h)]
  congr 2
  rw [List.getElem_reverse]
  apply Fin.ext
  simp
theorem downF_all (n : Nat) : (downF n n).map (·.1) = (List.range n).reverse := by
  unfold downF
  rw [List.take_of_length_le (by simp)]
  apply List.ext_getElem
  · simp
  · intro i h1 h2
    simp
abbrev encB (mb : Nat → Nat) {n : Nat} (p : Fin n) : Array Value := #[.int .i64 (p.1 : Int), .pointer (some ⟨mb p.1, 0, none⟩)]
set_option maxRecDepth 100000 in
set_option maxHeartbeats 2000000 in
theorem back1_in (F : Fence) (n : Nat) (hf : F.fn 51) (hro : F.round = none) (hn : 1 ≤ n) (l Bs g o c len : Nat) (mb : Nat → Nat) (X : Nat → Prop) (hX1 : X Bs) (hX2 : X g) (hlen : len ≤ 4194304) (hpos : 0 < len) (J Jx : List (Fin len) → World → Prop)
    (hY : ∀ pre x W, J pre W → pre.length < len → YieldAt F (n - 1) Try.prog l (encB mb x) W fun e W' =>
      (e = .returned (.bool true) ∧ J (pre ++ [x]) W' ∧ KpX X W W') ∨ (e = .returned (.bool false) ∧ Jx (pre ++ [x]) W'))
    (W : World) (hBs : W.cell? ⟨Bs, 0, none⟩ = some (.slice (some ⟨g, o, none⟩) len c)) (hc : ∀ j, j < len → W.cell? ⟨g, o + j, none⟩ = some (.pointer (some ⟨mb j, 0, none⟩))) (h0 : J [] W) :
    CallsIn F n Try.prog 51 #[.func (.yield l) #[] #[], .pointer (some ⟨Bs, 0, none⟩)] W fun e W' => (∃ v, e = .returned v) ∧
      ((∃ ys, ys = downF len len ∧ J ys W') ∨ (∃ pre, (∃ k, k ≤ len ∧ pre = downF len k) ∧ Jx pre W')) := by
  refine callsIn_of_wp Try.func51 rfl hf ?_ hro
  simp only [Try.ntmps51, List.size_toArray, List.length_cons, List.length_nil, Nat.reduceAdd, Nat.reduceSub, Array.replicate_succ, Array.replicate_zero, List.push_toArray, List.append_toArray, List.nil_append, List.cons_append]
  gi_wp2
  gi_loopw [3] (fun i wr => ∃ k : Nat, k ≤ len ∧ i = .int .i64 ((len : Int) - 1 - (k : Int)) ∧ Hid (J (downF len k) wr) ∧ Hid (KpX X W wr))
    (fun i _ => (intOf i + 1).toNat)
  case atStart => exact ⟨0, Nat.zero_le _, by simp, Lib.hid h0, Lib.hid (KpX.refl _ _)⟩
  case round =>
    obtain ⟨k, hk, rfl, hJs, hnx⟩ := hrel
    have c1 := (World.cell?_of_block (w := W) (a := ⟨Bs, 0, none⟩) (hnx.out Bs hX1)).trans hBs
    by_cases hlt : k < len
    · obtain ⟨m, hm⟩ : ∃ m : Nat, (len : Int) - 1 - (k : Int) = m := ⟨len - 1 - k, by omega⟩
      have hmk : m = len - 1 - k := by omega
      obtain ⟨x, hx⟩ : ∃ x : Fin len, x.1 = m := ⟨⟨m, by omega⟩, rfl⟩
      obtain ⟨fn, tmps, assign, body, hy, hR⟩ := hY _ x wr hJs.out (by rw [downF_len hk]; exact hlt)
      have hds : Hid (downF len (k + 1) = downF len k ++ [x]) := Lib.hid (by rw [downF_succ hlt]; congr 2; apply Fin.ext; show len - 1 - k = x.1; omega)
      have c2 := (World.cell?_of_block (w := W) (a := ⟨g, o + m, none⟩) (hnx.out g hX2)).trans (hc m (by omega))
      dsimp only [encB] at hy
      rw [hx] at hy
      have hm0 : m < len := by omega
      rw [hm]
      have HM := Lib.hid hmk
      clear hmk hc hBs hm hx
      gi_wp2
      refine hR.mono ?_
      rintro e W3 (⟨rfl, hJ3, hk3⟩ | ⟨rfl, hJx3⟩)
      · have HJ3 := Lib.hid hJ3
        have HK3 := Lib.hid hk3
        clear hJ3 hk3
        gi_wp2
        go_roundw
        case rel => exact ⟨k + 1, by omega, by have := HM.out; congr 1; omega, Lib.hid (by rw [hds.out]; exact HJ3.out), Lib.hid (hnx.out.trans HK3.out)⟩
        case measure => simp [intOf]
      · have HJ3 := Lib.hid hJx3
        clear hJx3
        gi_wp2
        refine bodyPost_ret (results_none rfl _ _ _) rfl ?_
        exact ⟨⟨_, rfl⟩, .inr ⟨_, ⟨k + 1, by omega, hds.out.symm⟩, HJ3.out⟩⟩
    · obtain rfl : k = len := by omega
      gi_wp2
      go_end0
      exact ⟨⟨_, rfl⟩, .inl ⟨_, rfl, hJs.out⟩⟩
set_option maxRecDepth 100000 in
set_option maxHeartbeats 1000000 in
/-- .. over a slice of nothing. -/
theorem back0_in (F : Fence) (n : Nat) (hf : F.fn 51) (hro : F.round = none) (l Bs : Nat) (a : Option Addr) (c : Nat) {α : Type} (J : List α → World → Prop) (W : World) (hBs : W.cell? ⟨Bs, 0, none⟩ = some (.slice a 0 c)) (h0 : J [] W) :
    CallsIn F n Try.prog 51 #[.func (.yield l) #[] #[], .pointer (some ⟨Bs, 0, none⟩)] W fun e W' => (∃ v, e = .returned v) ∧ J [] W' := by
  refine callsIn_of_wp Try.func51 rfl hf ?_ hro
  simp only [Try.ntmps51, List.size_toArray, List.length_cons, List.length_nil, Nat.reduceAdd, Nat.reduceSub, Array.replicate_succ, Array.replicate_zero, List.push_toArray, List.append_toArray, List.nil_append, List.cons_append]
  gi_wp2
  gi_loopw [3] (fun i wr => i = .int .i64 (-1) ∧ Hid (J [] wr)) (fun _ _ => 0)
  case atStart => exact ⟨by simp, Lib.hid h0⟩
  case round =>
    obtain ⟨rfl, hJs⟩ := hrel
    gi_wp2
    go_end0
    exact ⟨⟨_, rfl⟩, hJs.out⟩
/-- **slices.Backward over members: its contract.** -/
theorem back_stops (F : Fence) (n : Nat) (hf : F.fn 51) (hro : F.round = none) (hn : 1 ≤ n) (S : Nat → Prop) (Bs : Nat) (v : Value) (len : Nat) (mb : Nat → Nat) (w : World) (hlen : len ≤ 4194304) (hBs : w.cell? ⟨Bs, 0, none⟩ = some v) (hBl : Bs < w.heap.size)
    (hS : ∀ k, S k → k < w.heap.size) (h : CellsC S w v len 1 (pv mb (List.range len))) :
    SeqStopsK F n Try.prog 51 #[.pointer (some ⟨Bs, 0, none⟩)] (fun p : Fin len => encB mb p) (KpX (fun k => k = Bs ∨ S k)) (fun ys => ys.map (·.1) = (List.range len).reverse) (fun _ => True) len w := fun l J Jx W hW _ _ hY h0 => by
  have hc' : W.cell? ⟨Bs, 0, none⟩ = some v := (hW.cell (p := ⟨Bs, 0, none⟩) hBl).trans hBs
  have h2 : CellsC S W v len 1 (pv mb (List.range len)) := h.kept (fun k hk => ⟨hk, hW.block k (hS k hk)⟩)
  obtain ⟨a, c, rfl⟩ := h2.shape
  by_cases hl : len = 0
  · subst hl
    exact (back0_in F n hf hro l Bs a c J W hc' h0).mono fun e W' ⟨he, hj⟩ => ⟨he, .inl ⟨[], rfl, hj⟩⟩
  · obtain ⟨g, o, rfl, hg, _, _, hcs⟩ := h2.at (by omega)
    refine (back1_in F n hf hro hn l Bs g o c len mb (fun k => k = Bs ∨ S k) (Or.inl rfl) (Or.inr hg) hlen (by omega) J Jx hY W hc' (fun j hj => ?_) h0).mono ?_
    · have := hcs j _ (pv_at (by simpa using hj))
      simpa [List.getD, hj] using this
    · rintro e W' ⟨he, ⟨ys, rfl, hj⟩ | ⟨pre, _, hj⟩⟩
      · exact ⟨he, .inl ⟨_, downF_all len, hj⟩⟩
      · exact ⟨he, .inr ⟨_, trivial, hj⟩⟩
end Go.Proofs.Ytfphkbbgbfnhaaa
