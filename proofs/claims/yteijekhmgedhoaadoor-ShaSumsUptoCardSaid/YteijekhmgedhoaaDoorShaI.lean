/- Arrays in memory, their sizes shut. -/
import Derived.Test.YteijekhmgedhoaaDoorShaH
namespace Go.Proofs.YteijekhmgedhoaaDoor
open Go.RowKit

/-- Block b holds these cells, as an array of type t. -/
structure RowAt (w : World) (b : Nat) (t : TypeId) (vs : List Value) : Prop where
  blk : w.heap[b]? = some (.cells vs.toArray t (0, 0))
theorem RowAt.new (w : World) (t : TypeId) (vs : List Value) : RowAt (w.alloc (.cells vs.toArray t)) w.heap.size t vs := ⟨new_five w _ _⟩
theorem RowAt.kept {w w' : World} {b : Nat} {t : TypeId} {vs : List Value} (h : RowAt w b t vs) (hk : w'.heap[b]? = w.heap[b]?) : RowAt w' b t vs := ⟨hk.trans h.blk⟩
theorem RowAt.lt {w : World} {b : Nat} {t : TypeId} {vs : List Value} (h : RowAt w b t vs) : b < w.heap.size := (Array.getElem?_eq_some_iff.1 h.blk).1
theorem RowAt.cells {w : World} {b : Nat} {t : TypeId} {vs : List Value} (h : RowAt w b t vs) {n : Nat} (hn : vs.length = n) : (loadCellsFrom ⟨b, 0, none⟩ 0 n #[]).run Tryd.prog w = .ok vs.toArray w := by
  have := run_loadCells_list (P := Tryd.prog) w ⟨b, 0, none⟩ vs (fun j v hv => by
    rw [Addr.add_mid, cell_of_row w b _ _ _ _ h.blk]
    simpa using hv)
  rw [hn] at this
  simpa [loadCells] using this
theorem RowAt.write {w : World} {b : Nat} {t : TypeId} {old vs : List Value} (h : RowAt w b t old) (hl : vs.length = old.length) (h1 : ∀ u ∈ vs, u.oneCell' = true) : (storeCells ⟨b, 0, none⟩ vs).run Tryd.prog w = .ok () (w.setRow b vs.toArray) := by
  have := run_storeCells_from (P := Tryd.prog) b t vs 0 old.toArray w h.blk (by simp [hl]) h1
  simpa [hl] using this
theorem RowAt.put {w : World} {b : Nat} {t : TypeId} {old : List Value} (h : RowAt w b t old) (vs : List Value) : RowAt (w.setRow b vs.toArray) b t vs := ⟨setRow_heap w b _ _ _ _ h.blk⟩
theorem RowAt.cell {w : World} {b : Nat} {t : TypeId} {vs : List Value} (h : RowAt w b t vs) (k : Nat) : w.cell? ⟨b, k, none⟩ = vs[k]? := by rw [cell_of_row _ _ _ _ _ _ h.blk]; simp
theorem RowAt.free {w : World} {b : Nat} {t : TypeId} {vs : List Value} (h : RowAt w b t vs) (k : Nat) : w.frozen? ⟨b, k, none⟩ = false := by unfold World.frozen?; rw [h.blk]; simp
theorem RowAt.set {w : World} {b : Nat} {t : TypeId} {vs : List Value} (h : RowAt w b t vs) (k : Nat) (v : Value) : RowAt (w.setCell ⟨b, k, none⟩ v) b t (vs.set k v) := by
  refine ⟨?_⟩
  rw [heap_setCell_same w b k _ _ _ h.blk]
  simp
def wv (l : List Nat) : List Value := l.map fun c : Nat => Value.int .u32 (c : Int)
theorem wv_len (l : List Nat) : (wv l).length = l.length := by unfold wv; simp
theorem wv_at {l : List Nat} {k : Nat} (h : k < l.length) : (wv l)[k]? = some (.int .u32 (l.getD k 0 : Nat)) := by
  unfold wv; simp [List.getD, List.getElem?_eq_getElem h]
theorem wv_one (l : List Nat) : ∀ u ∈ wv l, u.oneCell' = true := by
  intro u hu
  unfold wv at hu
  obtain ⟨c, _, rfl⟩ := List.mem_map.1 hu
  rfl
theorem wv_set (l : List Nat) (k n : Nat) : (wv l).set k (.int .u32 (n : Int)) = wv (l.set k n) := by unfold wv; rw [List.map_set]
theorem bv_getD {l : List UInt8} {k : Nat} (h : k < l.length) : (bv l)[k]? = some (.int .u8 ((l.getD k 0).toNat : Nat)) := by
  unfold bv; simp [List.getD, List.getElem?_eq_getElem h]
def n8 : Nat := 8
def n64 : Nat := 64
def zeros8 : List Nat := List.replicate 8 0
def zeros64 : List Nat := List.replicate 64 0
def zerosB : List UInt8 := List.replicate 64 0
theorem st_size (w : World) : (sizeOf 66).run Tryd.prog w = .ok n8 w := by rw [Tryd.sizeOf66]; rfl
theorem st_zero (w : World) : (zeroValue 66).run Tryd.prog w = .ok (.agg (wv zeros8).toArray) w := by rw [Tryd.zeroValue66]; rfl
theorem s8_size (w : World) : (sizeOf 65).run Tryd.prog w = .ok n8 w := by rw [Tryd.sizeOf65]; rfl
theorem b64_size (w : World) : (sizeOf 67).run Tryd.prog w = .ok n64 w := by rw [Tryd.sizeOf67]; rfl
theorem b64_zero (w : World) : (zeroValue 67).run Tryd.prog w = .ok (.agg (bv zerosB).toArray) w := by rw [Tryd.zeroValue67]; rfl
theorem w64_size (w : World) : (sizeOf 106).run Tryd.prog w = .ok n64 w := by rw [Tryd.sizeOf106]; rfl
theorem w64_zero (w : World) : (zeroValue 106).run Tryd.prog w = .ok (.agg (wv zeros64).toArray) w := by rw [Tryd.zeroValue106]; rfl
attribute [local simp high] st_size st_zero s8_size b64_size b64_zero w64_size w64_zero
/-- The number of the first m bytes at o. -/
def partW (b : List UInt8) (o : Nat) : Nat → Nat
  | 0 => 0
  | m + 1 => partW b o m * 256 + (b.getD (o + m) 0).toNat
theorem partW_four (b : List UInt8) (o : Nat) : partW b o 4 = wordAt b o := by simp only [partW, wordAt, Nat.zero_mul, Nat.zero_add, Nat.add_zero]
theorem partW_lt (b : List UInt8) (o m : Nat) (h : m ≤ 4) : partW b o m < 256 ^ m := by
  induction m with
  | zero => simp [partW]
  | succ m ih =>
    have h1 := ih (by omega)
    have h2 := (b.getD (o + m) 0).toNat_lt
    simp only [partW, Nat.pow_succ]
    omega
/-- The words behind the first k bytes. -/
def wordsIn (b : List UInt8) (k : Nat) : List Nat := (List.range 64).map fun j => partW b (4 * j) (min 4 (k - 4 * j))
theorem wordsIn_len (b : List UInt8) (k : Nat) : (wordsIn b k).length = 64 := by unfold wordsIn; simp
theorem wordsIn_at (b : List UInt8) (k j : Nat) (h : j < 64) : (wordsIn b k).getD j 0 = partW b (4 * j) (min 4 (k - 4 * j)) := by
  unfold wordsIn; simp [List.getD, h]
theorem wordsIn_zero (b : List UInt8) : wordsIn b 0 = zeros64 := by
  apply List.ext_getElem?
  intro j
  unfold wordsIn zeros64
  by_cases h : j < 64
  · rw [List.getElem?_map, List.getElem?_range h, List.getElem?_replicate, if_pos h, Option.map_some, Nat.zero_sub, Nat.min_zero]; rfl
  · rw [List.getElem?_eq_none (by simp; omega), List.getElem?_eq_none (by simp; omega)]
theorem wordsIn_succ (b : List UInt8) (k : Nat) (h : k < 64) : wordsIn b (k + 1) = (wordsIn b k).set (k / 4) ((wordsIn b k).getD (k / 4) 0 * 256 + (b.getD k 0).toNat) := by
  apply List.ext_getElem?
  intro j
  rw [List.getElem?_set, wordsIn_len, wordsIn_at _ _ _ (by omega)]
  by_cases hj : k / 4 = j
  · subst hj
    rw [if_pos rfl, if_pos (by omega)]
    unfold wordsIn
    simp only [List.getElem?_map, List.getElem?_range (show k / 4 < 64 by omega), Option.map_some]
    congr 1
    have e : min 4 (k + 1 - 4 * (k / 4)) = min 4 (k - 4 * (k / 4)) + 1 := by omega
    rw [e, partW]
    congr 3
    omega
  · rw [if_neg hj]
    unfold wordsIn
    by_cases hj2 : j < 64
    · simp only [List.getElem?_map, List.getElem?_range hj2, Option.map_some]
      congr 2
      omega
    · simp [hj2]
theorem schedL_len (b : List UInt8) (o i : Nat) : (schedL b o i).length = i := by
  induction i with
  | zero => rfl
  | succ i ih => simp only [schedL, List.length_append, ih, List.length_cons, List.length_nil]
theorem schedL_take (b : List UInt8) (o i j : Nat) (h : j < i) : (schedL b o i).getD j 0 = (schedL b o (j + 1)).getD j 0 := by
  induction i with
  | zero => omega
  | succ i ih =>
    by_cases hj : j = i
    · rw [hj]
    · have e : (schedL b o (i + 1)).getD j 0 = (schedL b o i).getD j 0 := by
        simp only [schedL, List.getD]
        rw [List.getElem?_append_left (by rw [schedL_len]; omega)]
      rw [e, ih (by omega)]
theorem schedL_at (b : List UInt8) (o i : Nat) : (schedL b o (i + 1)).getD i 0 = if i < 16 then wordAt b (o + 4 * i) else ((schedL b o i).getD (i - 16) 0 + (schedL b o i).getD (i - 7) 0 + sml0 ((schedL b o i).getD (i - 15) 0) + sml1 ((schedL b o i).getD (i - 2) 0)) % two32 := by
  have e : (schedL b o (i + 1)).getD i 0 = ([if i < 16 then wordAt b (o + 4 * i) else ((schedL b o i).getD (i - 16) 0 + (schedL b o i).getD (i - 7) 0 + sml0 ((schedL b o i).getD (i - 15) 0) + sml1 ((schedL b o i).getD (i - 2) 0)) % two32] : List Nat).getD 0 0 := by
    conv => lhs; rw [schedL]
    simp only [List.getD]
    rw [List.getElem?_append_right (by rw [schedL_len]; exact Nat.le_refl _), schedL_len, Nat.sub_self]
  rw [e]; rfl
theorem getD_at {l : List Nat} {j : Nat} (h : j < l.length) : l[j]? = some (l.getD j 0) := by simp [List.getD, List.getElem?_eq_getElem h]
/-- Behind the bytes the first sixteen are the schedule's. -/
theorem wordsIn_all (b : List UInt8) (n : Nat) (hn : n ≤ 16) : (wordsIn b 64).take n = schedL b 0 n := by
  apply List.ext_getElem?
  intro j
  by_cases h : j < n
  · rw [List.getElem?_take, if_pos h, getD_at (by rw [wordsIn_len]; omega), getD_at (by rw [schedL_len]; exact h), wordsIn_at _ _ _ (by omega), show min 4 (64 - 4 * j) = 4 by omega, partW_four, schedL_take _ _ _ _ h, schedL_at, if_pos (by omega), Nat.zero_add]
  · rw [List.getElem?_eq_none (by rw [List.length_take]; omega), List.getElem?_eq_none (by rw [schedL_len]; omega)]
end Go.Proofs.YteijekhmgedhoaaDoor
