/- What the loops of the reference's Sum hold. -/
import Derived.Test.YtdolonkeanlaoaaDoorShaLP
import Derived.Test.YtdolonkeanlaoaaDoorMark
import Derived.Test.YtdolonkeanlaoaaDoorDraw
import Derived.IntWalk
namespace Go.Proofs.YtdolonkeanlaoaaDoor
open Go.RowKit

attribute [local simp high] id_size id_zero
theorem bits_and_u64_nat (a b : Nat) (ha : a < 18446744073709551616) (hb : b < 18446744073709551616) : bits .and .u64 (a : Int) (b : Int) = ((a &&& b : Nat) : Int) := by
  have h1 : (BitVec.ofInt 64 (a : Int)).toNat = a := by
    rw [BitVec.ofInt_natCast, BitVec.toNat_ofNat]; exact Nat.mod_eq_of_lt (by omega)
  have h2 : (BitVec.ofInt 64 (b : Int)).toNat = b := by
    rw [BitVec.ofInt_natCast, BitVec.toNat_ofNat]; exact Nat.mod_eq_of_lt (by omega)
  have hl : a &&& b ≤ a := Nat.and_le_left
  show IntKind.u64.wrap ((BitVec.ofInt 64 (a : Int) &&& BitVec.ofInt 64 (b : Int)).toNat : Int) = _
  rw [BitVec.toNat_and, h1, h2, IntKind.wrap_u64]
  omega
theorem Tryd.info50 : (Tryd.prog.info? 50).map (fun i => (i.zero, i.size, i.bytes)) = some (some (.int .u64 0), 1, 8) := by kernel_rfl
def nil64 : List Nat := List.replicate 64 0
theorem nil64_len : nil64.length = 64 := by unfold nil64; simp
set_option maxRecDepth 100000 in
theorem make64 (W : World) : (Instr.makeSlice 67 (.int .i64 64) (.int .i64 64)).run Tryd.prog W = .ok (.slice (some ⟨W.heap.size, 0, none⟩) 64 64) (W.alloc (.cells (uv nil64).toArray 50)) := by kernel_rfl
/-- What stays as it is while a block is summed. -/
structure Amb (w : World) (S : Nat → Prop) (kb hb : Nat) (v : Value) (pad : List UInt8) (hv : List Nat) (top : Nat) (wq : World) : Prop where
  p : WordsAt wq kb partsL
  h : WordsAt wq hb hv
  b : BytesC S wq v pad
  i : IDAt wq w.heap.size zeros
  bw : Below w.heap.size w wq
  sz : top ≤ wq.heap.size
  lt : kb < top ∧ hb < top ∧ w.heap.size < top ∧ ∀ k, S k → k < top
theorem Amb.on {w : World} {S : Nat → Prop} {kb hb : Nat} {v : Value} {pad : List UInt8} {hv : List Nat} {top : Nat} {wq wq' : World} (a : Amb w S kb hb v pad hv top wq) (h : Below top wq wq') : Amb w S kb hb v pad hv top wq' where
  p := a.p.kept (h.block _ a.lt.1)
  h := a.h.kept (h.block _ a.lt.2.1)
  b := a.b.kept (fun k hk => ⟨hk, h.block k (a.lt.2.2.2 k hk)⟩)
  i := a.i.kept (h.block _ a.lt.2.2.1)
  bw := a.bw.trans (h.mono (Nat.le_of_lt a.lt.2.2.1))
  sz := Nat.le_trans a.sz h.size
  lt := a.lt
theorem Amb.lift {w : World} {S : Nat → Prop} {kb hb : Nat} {v : Value} {pad : List UInt8} {hv : List Nat} {top top' : Nat} {wq : World} (a : Amb w S kb hb v pad hv top wq) (h : top ≤ top') (h' : top' ≤ wq.heap.size) : Amb w S kb hb v pad hv top' wq where
  p := a.p
  h := a.h
  b := a.b
  i := a.i
  bw := a.bw
  sz := h'
  lt := ⟨Nat.lt_of_lt_of_le a.lt.1 h, Nat.lt_of_lt_of_le a.lt.2.1 h, Nat.lt_of_lt_of_le a.lt.2.2.1 h, fun k hk => Nat.lt_of_lt_of_le (a.lt.2.2.2 k hk) h⟩
theorem below_words {top : Nat} (wq : World) (b k : Nat) (x : Value) (h : top ≤ b) : Below top wq (wq.setCell ⟨b, k, none⟩ x) := (Below.refl top wq).setCell h x
theorem below_draw (top : Nat) (wq : World) (n : Nat) : Below top wq (wq.drewN n) := ⟨rfl, rfl, rfl, Nat.le_refl _, fun _ _ => rfl⟩
/-- The words of a block as far as word i, behind c bytes of that. -/
def schedAt (b : List UInt8) (o i c : Nat) : List Nat := (schedL b o i ++ List.replicate (64 - i) 0).set i (partW b (o + 4 * i) c)
theorem schedAt_len (b : List UInt8) (o i c : Nat) (hi : i ≤ 64) : (schedAt b o i c).length = 64 := by
  unfold schedAt; rw [List.length_set, List.length_append, schedL_len, List.length_replicate]; omega
theorem schedAt_zero (b : List UInt8) (o i : Nat) : schedAt b o i 0 = schedL b o i ++ List.replicate (64 - i) 0 := by
  unfold schedAt
  have e : partW b (o + 4 * i) 0 = 0 := rfl
  rw [e]
  apply List.ext_getElem?
  intro j
  rw [List.getElem?_set]
  split
  · rename_i h; subst h
    rw [List.getElem?_append_right (by rw [schedL_len]; omega), schedL_len, Nat.sub_self]
    rw [List.length_append, schedL_len, List.length_replicate]
    by_cases hi : i < 64
    · rw [if_pos (by omega), List.getElem?_replicate, if_pos (by omega)]
    · rw [if_neg (by omega), List.getElem?_replicate, if_neg (by omega)]
  · rfl
theorem schedAt_start (b : List UInt8) (o : Nat) : schedAt b o 0 0 = nil64 := by rw [schedAt_zero]; rfl
theorem schedAt_at (b : List UInt8) (o i c : Nat) (hi : i < 64) : (schedAt b o i c).getD i 0 = partW b (o + 4 * i) c := by
  unfold schedAt
  rw [List.getD_eq_getElem?_getD, List.getElem?_set_self (by rw [List.length_append, schedL_len, List.length_replicate]; omega)]
  rfl
theorem schedAt_before (b : List UInt8) (o i j : Nat) (hj : j < i) : (schedAt b o i 0).getD j 0 = (schedL b o i).getD j 0 := by
  rw [schedAt_zero, List.getD_eq_getElem?_getD, List.getElem?_append_left (by rw [schedL_len]; exact hj), List.getD_eq_getElem?_getD]
theorem schedAt_next (b : List UInt8) (o i c : Nat) : (schedAt b o i c).set i (partW b (o + 4 * i) (c + 1)) = schedAt b o i (c + 1) := by
  unfold schedAt; rw [List.set_set]
theorem sched_set (b : List UInt8) (o i x : Nat) (hi : i < 64) (h : schedL b o (i + 1) = schedL b o i ++ [x]) : (schedAt b o i 0).set i x = schedAt b o (i + 1) 0 := by
  rw [schedAt_zero, schedAt_zero, h, List.set_append_right _ _ (by rw [schedL_len]; omega), schedL_len, Nat.sub_self]
  obtain ⟨m, hm⟩ : ∃ m, 64 - i = m + 1 := ⟨63 - i, by omega⟩
  rw [hm, show 64 - (i + 1) = m by omega, List.replicate_succ, List.set_cons_zero, List.append_assoc]
  rfl
theorem schedAt_word (b : List UInt8) (o i : Nat) (hi : i < 16) : schedAt b o i 4 = schedAt b o (i + 1) 0 := by
  rw [← sched_set b o i (wordAt b (o + 4 * i)) (by omega) (by rw [schedL, if_pos hi]), schedAt_zero]
  unfold schedAt
  rw [partW_four]
theorem schedAt_lt (b : List UInt8) (o i j : Nat) (hj : j < i) : (schedAt b o i 0).getD j 0 < two32 := by
  rw [schedAt_before b o i j hj]
  exact getD_lt (schedL_lt b o i)
theorem schedAt_all (b : List UInt8) (o : Nat) : schedAt b o 64 0 = schedL b o 64 := by rw [schedAt_zero]; simp
theorem sched_late (b : List UInt8) (o i : Nat) (hi : 16 ≤ i) : schedL b o (i + 1) = schedL b o i ++ [((schedAt b o i 0).getD (i - 16) 0 + (schedAt b o i 0).getD (i - 7) 0 + sml0 ((schedAt b o i 0).getD (i - 15) 0) + sml1 ((schedAt b o i 0).getD (i - 2) 0)) % two32] := by
  rw [schedAt_before b o i (i - 16) (by omega), schedAt_before b o i (i - 7) (by omega), schedAt_before b o i (i - 15) (by omega), schedAt_before b o i (i - 2) (by omega), schedL, if_neg (by omega)]
theorem own64_empty (w : World) : (w.alloc (.cells #[] 50)).ownsRow w.heap.size 50 1 (.slice (some ⟨w.heap.size, 0, none⟩) 0 0) 0 [] :=
  ⟨rfl, Or.inr ⟨w.heap.size, 0, #[], rfl, Nat.le_refl _, new_five w _ _, Nat.le_refl _, Nat.zero_le _, rfl, rfl⟩⟩
theorem src64 {w : World} {b : Nat} {l : List Nat} (h : WordsAt w b l) (hl : l.length = 8) : Src Tryd.prog 1 67 (.slice (some ⟨b, 0, none⟩) 8 8) 8 (uv l) w := by
  refine Src.ofSlice w Tryd.underlying67 ⟨b, 0, none⟩ 8 8 _ (by rw [uv_len, hl]) (fun j u hj => ?_) (fun u hu => ?_)
  · rw [Addr.add_mid, Nat.zero_add, cell_of_row _ _ _ _ _ _ h.blk]
    simpa using hj
  · unfold uv at hu
    obtain ⟨x, _, rfl⟩ := List.mem_map.1 hu
    rfl
/-- The eight words of a sum in the making. -/
def VAt (w : World) (g : Nat) (U : Eight) : Prop := ∀ j, j < 8 → w.cell? ⟨g, j, none⟩ = some (.int .u64 ((U.list.getD j 0 : Nat) : Int))
theorem VAt.kept {w w' : World} {g : Nat} {U : Eight} (h : VAt w g U) (hk : w'.heap[g]? = w.heap[g]?) : VAt w' g U := fun j hj => by
  rw [← h j hj]; unfold World.cell?; rw [hk]
theorem VAt.of_own {w : World} {B g cap : Nat} {U : Eight} (h : w.ownsRow B 50 1 (.slice (some ⟨g, 0, none⟩) 8 cap) 8 (uv U.list)) : VAt w g U := fun j hj => by
  have hl : U.list.length = 8 := rfl
  have := World.ownsRow.cells h rfl j (.int .u64 ((U.list.getD j 0 : Nat) : Int)) (by unfold uv; simp [List.getD, List.getElem?_eq_getElem (show j < U.list.length by omega)])
  rwa [Addr.add_mid, Nat.zero_add] at this
theorem VAt.of_row {w : World} {g : Nat} {U : Eight} (h : WordsAt w g U.list) : VAt w g U := fun j hj => by
  rw [h.cell j hj]; simp [List.getD, List.getElem?_eq_getElem (show j < U.list.length from hj)]; rfl
theorem own8_at {w : World} {B : Nat} {v : Value} {xs : List Value} (h : w.ownsRow B 50 1 v 8 xs) : ∃ g cap, v = .slice (some ⟨g, 0, none⟩) 8 cap ∧ 8 ≤ cap ∧ cap ≤ 9223372036854775807 ∧ B ≤ g ∧ g < w.heap.size := by
  rcases h.2 with ⟨_, h0⟩ | ⟨g, cap, cur, h1, h2, h3, h4, h5, _⟩
  · exact absurd h0 (by decide)
  · unfold maxLen at h5
    exact ⟨g, cap, h1, h4, h5, h2, (Array.getElem?_eq_some_iff.1 h3).1⟩
theorem roundN_lt {v : Eight} (h : ∀ x ∈ v.list, x < two32) (k w : Nat) : ∀ x ∈ (roundN v k w).list, x < two32 := by
  have hp : 0 < two32 := by unfold two32; omega
  intro x hx
  have h1 : ∀ y, y % two32 < two32 := fun y => Nat.mod_lt _ hp
  simp only [Eight.list, List.mem_cons, List.not_mem_nil, or_false] at hx
  rcases hx with rfl | rfl | rfl | rfl | rfl | rfl | rfl | rfl
  · exact h1 _
  · exact h _ (by simp [Eight.list, roundN])
  · exact h _ (by simp [Eight.list, roundN])
  · exact h _ (by simp [Eight.list, roundN])
  · exact h1 _
  · exact h _ (by simp [Eight.list, roundN])
  · exact h _ (by simp [Eight.list, roundN])
  · exact h _ (by simp [Eight.list, roundN])
theorem roundsN_lt {ws : List Nat} {v : Eight} (h : ∀ x ∈ v.list, x < two32) (k : Nat) : ∀ x ∈ (roundsN ws v k).list, x < two32 := by
  induction k with
  | zero => exact h
  | succ k ih => exact roundN_lt ih _ _
theorem Amb.put {w : World} {S : Nat → Prop} {kb hb : Nat} {v : Value} {pad : List UInt8} {hv : List Nat} {top : Nat} {wq : World} (a : Amb w S kb hb v pad hv top wq) (j z : Nat) (hkb : kb ≠ hb) (hS : ∀ k, S k → k ≠ hb) (hi : w.heap.size < hb) : Amb w S kb hb v pad (hv.set j z) top (wq.setCell ⟨hb, j, none⟩ (.int .u64 (z : Int))) where
  p := a.p.kept (heap_setCell_other _ _ _ _ (by simpa using hkb))
  h := a.h.set j z
  b := a.b.kept (fun k hk => ⟨hk, heap_setCell_other _ _ _ _ (by simpa using hS k hk)⟩)
  i := a.i.kept (heap_setCell_other _ _ _ _ (by simp; omega))
  bw := a.bw.setCell (by show w.heap.size ≤ hb; omega) _
  sz := by have := a.sz; simpa using this
  lt := a.lt
theorem quiet_dr {P : Program} {f : FuncId} {args : Array Value} {w : World} {n : Nat} {v : Value}
    (h : Calls P f args (w.drewN n) fun e w' => e = .returned v ∧ ∃ m, w' = (w.drewN n).drewN m) : Calls P f args (w.drewN n) fun e w'' => e = .returned v ∧ ∃ m, w'' = w.drewN m :=
  h.mono fun _ _ ⟨he, m, hm⟩ => ⟨he, n + m, by rw [hm, World.drewN_drewN]⟩
theorem addL_at (xs vs : List Nat) (k j : Nat) (h : k ≤ j) : (addL xs vs k).getD j 0 = xs.getD j 0 := by
  induction k with
  | zero => rfl
  | succ k ih =>
    rw [addL, ← ih (by omega), List.getD_eq_getElem?_getD, List.getElem?_set_ne (by omega), List.getD_eq_getElem?_getD]
theorem addE_comm (x y : Eight) : addE x y = addE y x := by simp only [addE, Nat.add_comm]
def outL (hv : List Nat) (j : Nat) : List UInt8 := (List.range j).map (outB hv) ++ List.replicate (32 - j) 0
theorem outL_zero (hv : List Nat) : outL hv 0 = zeros := rfl
theorem outL_all (hv : List Nat) : outL hv 32 = (List.range 32).map (outB hv) := by unfold outL; simp
theorem outL_set (hv : List Nat) (j : Nat) (hj : j < 32) : outL hv (j + 1) = (outL hv j).set j (outB hv j) := by
  unfold outL
  rw [List.range_succ, List.map_append, List.set_append_right _ _ (by simp)]
  obtain ⟨m, hm⟩ : ∃ m, 32 - j = m + 1 := ⟨31 - j, by omega⟩
  rw [hm, show 32 - (j + 1) = m by omega, List.replicate_succ]
  simp
theorem addL_at' (xs vs : List Nat) (k j : Nat) (h : k ≤ j) : (addL xs vs k).getD j 0 = xs.getD j 0 := by
  induction k with
  | zero => rfl
  | succ k ih =>
    rw [addL, ← ih (by omega), List.getD_eq_getElem?_getD, List.getElem?_set_ne (by omega), List.getD_eq_getElem?_getD]
theorem addE_comm' (x y : Eight) : addE x y = addE y x := by simp only [addE, Nat.add_comm]
end Go.Proofs.YtdolonkeanlaoaaDoor
