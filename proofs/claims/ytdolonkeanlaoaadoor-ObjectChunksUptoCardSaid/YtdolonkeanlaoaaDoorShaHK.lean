/- The walks of RotateLeft32 (to the right by n) and turned. Arrays in memory, their sizes shut. The walk of spread. The laid tables; the walk of taken. -/
import Derived.Test.YtdolonkeanlaoaaDoorShaAF
import Derived.StillTailTactics
import Derived.Lib.LaidTab
import Derived.Deep.Cut
namespace Go.Proofs.YtdolonkeanlaoaaDoor
open Go.RowKit

theorem and31 {n : Nat} (h1 : 1 ≤ n) (h2 : n ≤ 31) : bits .and .u64 (IntKind.u64.wrap (-(n : Int))) 31 = ((32 - n : Nat) : Int) := by
  have h : n = 1 ∨ n = 2 ∨ n = 3 ∨ n = 4 ∨ n = 5 ∨ n = 6 ∨ n = 7 ∨ n = 8 ∨ n = 9 ∨ n = 10 ∨ n = 11 ∨ n = 12 ∨ n = 13 ∨ n = 14 ∨ n = 15 ∨ n = 16 ∨ n = 17 ∨ n = 18 ∨ n = 19 ∨ n = 20 ∨ n = 21 ∨ n = 22 ∨ n = 23 ∨ n = 24 ∨ n = 25 ∨ n = 26 ∨ n = 27 ∨ n = 28 ∨ n = 29 ∨ n = 30 ∨ n = 31 := by omega
  rcases h with rfl | rfl | rfl | rfl | rfl | rfl | rfl | rfl | rfl | rfl | rfl | rfl | rfl | rfl | rfl | rfl | rfl | rfl | rfl | rfl | rfl | rfl | rfl | rfl | rfl | rfl | rfl | rfl | rfl | rfl | rfl <;> decide +kernel
theorem bits_or_u32_nat (a b : Nat) (ha : a < two32) (hb : b < two32) : bits .or .u32 (a : Int) (b : Int) = ((a ||| b : Nat) : Int) := by
  have e : two32 = 2 ^ 32 := rfl
  rw [e] at ha hb
  have hx : a ||| b < 2 ^ 32 := Nat.or_lt_two_pow ha hb
  have h1 : (BitVec.ofInt 32 (a : Int)).toNat = a := by
    rw [BitVec.ofInt_natCast, BitVec.toNat_ofNat]; exact Nat.mod_eq_of_lt ha
  have h2 : (BitVec.ofInt 32 (b : Int)).toNat = b := by
    rw [BitVec.ofInt_natCast, BitVec.toNat_ofNat]; exact Nat.mod_eq_of_lt hb
  show IntKind.u32.wrap ((BitVec.ofInt 32 (a : Int) ||| BitVec.ofInt 32 (b : Int)).toNat : Int) = _
  rw [BitVec.toNat_or, h1, h2]
  simp [IntKind.wrap, IntKind.bits, IntKind.signed]; omega
theorem bits_xor_u32_nat (a b : Nat) (ha : a < two32) (hb : b < two32) : bits .xor .u32 (a : Int) (b : Int) = ((a ^^^ b : Nat) : Int) := by
  have e : two32 = 2 ^ 32 := rfl
  rw [e] at ha hb
  have hx : a ^^^ b < 2 ^ 32 := Nat.xor_lt_two_pow ha hb
  have h1 : (BitVec.ofInt 32 (a : Int)).toNat = a := by
    rw [BitVec.ofInt_natCast, BitVec.toNat_ofNat]; exact Nat.mod_eq_of_lt ha
  have h2 : (BitVec.ofInt 32 (b : Int)).toNat = b := by
    rw [BitVec.ofInt_natCast, BitVec.toNat_ofNat]; exact Nat.mod_eq_of_lt hb
  show IntKind.u32.wrap ((BitVec.ofInt 32 (a : Int) ^^^ BitVec.ofInt 32 (b : Int)).toNat : Int) = _
  rw [BitVec.toNat_xor, h1, h2]
  simp [IntKind.wrap, IntKind.bits, IntKind.signed]; omega
theorem bits_and_u32_nat (a b : Nat) (ha : a < two32) (hb : b < two32) : bits .and .u32 (a : Int) (b : Int) = ((a &&& b : Nat) : Int) := by
  have e : two32 = 2 ^ 32 := rfl
  rw [e] at ha hb
  have hx : a &&& b < 2 ^ 32 := Nat.lt_of_le_of_lt Nat.and_le_left ha
  have h1 : (BitVec.ofInt 32 (a : Int)).toNat = a := by
    rw [BitVec.ofInt_natCast, BitVec.toNat_ofNat]; exact Nat.mod_eq_of_lt ha
  have h2 : (BitVec.ofInt 32 (b : Int)).toNat = b := by
    rw [BitVec.ofInt_natCast, BitVec.toNat_ofNat]; exact Nat.mod_eq_of_lt hb
  show IntKind.u32.wrap ((BitVec.ofInt 32 (a : Int) &&& BitVec.ofInt 32 (b : Int)).toNat : Int) = _
  rw [BitVec.toNat_and, h1, h2]
  simp [IntKind.wrap, IntKind.bits, IntKind.signed]; omega
theorem wrap_u32 (n : Int) : IntKind.u32.wrap n = n % 4294967296 := by simp [IntKind.wrap, IntKind.bits, IntKind.signed]
/-- Turned: what is moved out comes in again. -/
theorem rot_or {x n : Nat} (hx : x < two32) (h1 : 1 ≤ n) (h2 : n ≤ 31) : bits .or .u32 (IntKind.u32.wrap ((x : Int) * 2 ^ (32 - n))) ((x : Int) / 2 ^ n) = ((rotN x n : Nat) : Int) := by
  have hp : two32 = 2 ^ n * 2 ^ (32 - n) := by rw [← Nat.pow_add, show n + (32 - n) = 32 by omega]; rfl
  have hd : two32 / 2 ^ n = 2 ^ (32 - n) := by rw [hp, Nat.mul_div_cancel_left _ (Nat.two_pow_pos n)]
  have hw : IntKind.u32.wrap ((x : Int) * 2 ^ (32 - n)) = ((x % 2 ^ n * 2 ^ (32 - n) : Nat) : Int) := by
    rw [wrap_u32, ← Nat.mul_mod_mul_right, ← hp]
    simp [two32]
  have hr : ((x : Int) / 2 ^ n) = ((x / 2 ^ n : Nat) : Int) := by simp
  have hb : x / 2 ^ n < 2 ^ (32 - n) := by
    rw [Nat.div_lt_iff_lt_mul (Nat.two_pow_pos n), Nat.mul_comm, ← hp]; exact hx
  have ha : x % 2 ^ n * 2 ^ (32 - n) < two32 := by
    rw [hp]; exact Nat.mul_lt_mul_of_pos_right (Nat.mod_lt _ (Nat.two_pow_pos n)) (Nat.two_pow_pos _)
  rw [hw, hr, bits_or_u32_nat _ _ ha (Nat.lt_of_le_of_lt (Nat.div_le_self _ _) hx)]
  congr 1
  unfold rotN
  rw [hd, Nat.mul_comm, ← Nat.two_pow_add_eq_or_of_lt hb, Nat.mul_comm, Nat.add_comm]
set_option maxRecDepth 100000 in
set_option maxHeartbeats 1000000 in
theorem rot_any (x n : Nat) (m : Int) (w : World) (hm : m = -(n : Int)) (hx : x < two32) (h1 : 1 ≤ n) (h2 : n ≤ 31) : Calls Tryd.prog 85 #[.int .u32 x, .int .i64 m] w fun e w' => e = .returned (.int .u32 ((rotN x n : Nat) : Int)) ∧ w = w' := by
  have ha := and31 h1 h2
  have HR := Lib.hid (rot_or hx h1 h2)
  rw [← hm] at ha
  obtain ⟨s, hs⟩ : ∃ s : Nat, s = 32 - n := ⟨_, rfl⟩
  rw [← hs] at ha HR
  have hs1 : 1 ≤ s := by omega
  have hs2 : s ≤ 31 := by omega
  have hsn : (32 : Int) - (s : Int) = (n : Int) := by omega
  clear hm hs hx
  go_enter Tryd.func85, Tryd.ntmps85
  go_wp2_with fail
  go_ret
  refine ⟨?_, rfl⟩
  rw [← HR.out, wrap_u32]
  rfl
set_option maxRecDepth 100000 in
set_option maxHeartbeats 1000000 in
theorem turned_any (x a b c : Nat) (w : World) (hx : x < two32) (ha : 1 ≤ a ∧ a ≤ 31) (hb : 1 ≤ b ∧ b ≤ 31) (hc : 1 ≤ c ∧ c ≤ 31) : Calls Tryd.prog 72 #[.int .u32 x, .int .i64 a, .int .i64 b, .int .i64 c] w fun e w' => e = .returned (.int .u32 (((rotN x a ^^^ rotN x b) ^^^ rotN x c : Nat) : Int)) ∧ w = w' := by
  have HA := Lib.hid (fun w => rot_any x a _ w rfl hx ha.1 ha.2)
  have HB := Lib.hid (fun w => rot_any x b _ w rfl hx hb.1 hb.2)
  have HC := Lib.hid (fun w => rot_any x c _ w rfl hx hc.1 hc.2)
  have e : two32 = 2 ^ 32 := rfl
  have l1 := rotN_lt hx ha.2
  have l2 := rotN_lt hx hb.2
  have l3 := rotN_lt hx hc.2
  have x1 := bits_xor_u32_nat _ _ l1 l2
  have x2 := bits_xor_u32_nat (rotN x a ^^^ rotN x b) (rotN x c) (by rw [e] at *; exact Nat.xor_lt_two_pow l1 l2) l3
  obtain ⟨ha1, ha2⟩ := ha
  obtain ⟨hb1, hb2⟩ := hb
  obtain ⟨hc1, hc2⟩ := hc
  clear l1 l2 l3 hx e
  generalize rotN x a ^^^ rotN x b ^^^ rotN x c = r2 at *
  generalize rotN x a ^^^ rotN x b = r1 at *
  generalize rotN x a = p at *
  generalize rotN x b = q at *
  generalize rotN x c = r at *
  go_enter Tryd.func72, Tryd.ntmps72
  go_wp2_with fail
  refine (HA.out _).mono ?_
  rintro e w' ⟨rfl, rfl⟩
  go_wp2_with fail
  refine (HB.out _).mono ?_
  rintro e w' ⟨rfl, rfl⟩
  go_wp2_with fail
  refine (HC.out _).mono ?_
  rintro e w' ⟨rfl, rfl⟩
  go_wp2_with fail
  go_ret
  exact ⟨rfl, rfl⟩
end Go.Proofs.YtdolonkeanlaoaaDoor
namespace Go.Proofs.YtdolonkeanlaoaaDoor
open Go.RowKit

/-- Block b holds these cells, as an array of type t. -/
structure RowAt (w : World) (b : Nat) (t : TypeId) (vs : List Value) : Prop where
  blk : w.heap[b]? = some (.cells vs.toArray t (0, 0))
theorem RowAt.new (w : World) (t : TypeId) (vs : List Value) : RowAt (w.alloc (.cells vs.toArray t)) w.heap.size t vs := ⟨new_five w _ _⟩
theorem RowAt.kept {w w' : World} {b : Nat} {t : TypeId} {vs : List Value} (h : RowAt w b t vs) (hk : w'.heap[b]? = w.heap[b]?) : RowAt w' b t vs := ⟨hk.trans h.blk⟩
theorem RowAt.lt {w : World} {b : Nat} {t : TypeId} {vs : List Value} (h : RowAt w b t vs) : b < w.heap.size := (Array.getElem?_eq_some_iff.1 h.blk).1
theorem RowAt.cells {w : World} {b : Nat} {t : TypeId} {vs : List Value} (h : RowAt w b t vs) {n : Nat} (hn : vs.length = n) : (loadCellsFrom ⟨b, 0, none⟩ 0 n #[]).run Tryd.prog w = .ok vs.toArray w := by
  have := run_loadCells_list (P := Tryd.prog) w ⟨b, 0, none⟩ vs (fun j v hv => by
    rw [Addr.add_mid, cell_of_row w b _ _ _ _ h.blk]
    simpa using hv)
  rw [hn] at this
  simpa [loadCells] using this
theorem RowAt.write {w : World} {b : Nat} {t : TypeId} {old vs : List Value} (h : RowAt w b t old) (hl : vs.length = old.length) (h1 : ∀ u ∈ vs, u.oneCell' = true) : (storeCells ⟨b, 0, none⟩ vs).run Tryd.prog w = .ok () (w.setRow b vs.toArray) := by
  have := run_storeCells_from (P := Tryd.prog) b t vs 0 old.toArray w h.blk (by simp [hl]) h1
  simpa [hl] using this
theorem RowAt.put {w : World} {b : Nat} {t : TypeId} {old : List Value} (h : RowAt w b t old) (vs : List Value) : RowAt (w.setRow b vs.toArray) b t vs := ⟨setRow_heap w b _ _ _ _ h.blk⟩
theorem RowAt.cell {w : World} {b : Nat} {t : TypeId} {vs : List Value} (h : RowAt w b t vs) (k : Nat) : w.cell? ⟨b, k, none⟩ = vs[k]? := by rw [cell_of_row _ _ _ _ _ _ h.blk]; simp
theorem RowAt.free {w : World} {b : Nat} {t : TypeId} {vs : List Value} (h : RowAt w b t vs) (k : Nat) : w.frozen? ⟨b, k, none⟩ = false := by unfold World.frozen?; rw [h.blk]; simp
theorem RowAt.set {w : World} {b : Nat} {t : TypeId} {vs : List Value} (h : RowAt w b t vs) (k : Nat) (v : Value) : RowAt (w.setCell ⟨b, k, none⟩ v) b t (vs.set k v) := by
  refine ⟨?_⟩
  rw [heap_setCell_same w b k _ _ _ h.blk]
  simp
def wv (l : List Nat) : List Value := l.map fun c : Nat => Value.int .u32 (c : Int)
theorem wv_len (l : List Nat) : (wv l).length = l.length := by unfold wv; simp
theorem wv_at {l : List Nat} {k : Nat} (h : k < l.length) : (wv l)[k]? = some (.int .u32 (l.getD k 0 : Nat)) := by
  unfold wv; simp [List.getD, List.getElem?_eq_getElem h]
theorem wv_one (l : List Nat) : ∀ u ∈ wv l, u.oneCell' = true := by
  intro u hu
  unfold wv at hu
  obtain ⟨c, _, rfl⟩ := List.mem_map.1 hu
  rfl
theorem wv_set (l : List Nat) (k n : Nat) : (wv l).set k (.int .u32 (n : Int)) = wv (l.set k n) := by unfold wv; rw [List.map_set]
theorem bv_getD {l : List UInt8} {k : Nat} (h : k < l.length) : (bv l)[k]? = some (.int .u8 ((l.getD k 0).toNat : Nat)) := by
  unfold bv; simp [List.getD, List.getElem?_eq_getElem h]
def n8 : Nat := 8
def n64 : Nat := 64
def zeros8 : List Nat := List.replicate 8 0
def zeros64 : List Nat := List.replicate 64 0
def zerosB : List UInt8 := List.replicate 64 0
theorem st_size (w : World) : (sizeOf 93).run Tryd.prog w = .ok n8 w := by rw [Tryd.sizeOf93]; rfl
theorem st_zero (w : World) : (zeroValue 93).run Tryd.prog w = .ok (.agg (wv zeros8).toArray) w := by rw [Tryd.zeroValue93]; rfl
theorem s8_size (w : World) : (sizeOf 92).run Tryd.prog w = .ok n8 w := by rw [Tryd.sizeOf92]; rfl
theorem b64_size (w : World) : (sizeOf 94).run Tryd.prog w = .ok n64 w := by rw [Tryd.sizeOf94]; rfl
theorem b64_zero (w : World) : (zeroValue 94).run Tryd.prog w = .ok (.agg (bv zerosB).toArray) w := by rw [Tryd.zeroValue94]; rfl
theorem w64_size (w : World) : (sizeOf 111).run Tryd.prog w = .ok n64 w := by rw [Tryd.sizeOf111]; rfl
theorem w64_zero (w : World) : (zeroValue 111).run Tryd.prog w = .ok (.agg (wv zeros64).toArray) w := by rw [Tryd.zeroValue111]; rfl
attribute [local simp high] st_size st_zero s8_size b64_size b64_zero w64_size w64_zero
/-- The number of the first m bytes at o. -/
def partW (b : List UInt8) (o : Nat) : Nat → Nat
  | 0 => 0
  | m + 1 => partW b o m * 256 + (b.getD (o + m) 0).toNat
theorem partW_four (b : List UInt8) (o : Nat) : partW b o 4 = wordAt b o := by simp only [partW, wordAt, Nat.zero_mul, Nat.zero_add, Nat.add_zero]
theorem partW_lt (b : List UInt8) (o m : Nat) (h : m ≤ 4) : partW b o m < 256 ^ m := by
  induction m with
  | zero => simp [partW]
  | succ m ih =>
    have h1 := ih (by omega)
    have h2 := (b.getD (o + m) 0).toNat_lt
    simp only [partW, Nat.pow_succ]
    omega
/-- The words behind the first k bytes. -/
def wordsIn (b : List UInt8) (k : Nat) : List Nat := (List.range 64).map fun j => partW b (4 * j) (min 4 (k - 4 * j))
theorem wordsIn_len (b : List UInt8) (k : Nat) : (wordsIn b k).length = 64 := by unfold wordsIn; simp
theorem wordsIn_at (b : List UInt8) (k j : Nat) (h : j < 64) : (wordsIn b k).getD j 0 = partW b (4 * j) (min 4 (k - 4 * j)) := by
  unfold wordsIn; simp [List.getD, h]
theorem wordsIn_zero (b : List UInt8) : wordsIn b 0 = zeros64 := by
  apply List.ext_getElem?
  intro j
  unfold wordsIn zeros64
  by_cases h : j < 64
  · rw [List.getElem?_map, List.getElem?_range h, List.getElem?_replicate, if_pos h, Option.map_some, Nat.zero_sub, Nat.min_zero]; rfl
  · rw [List.getElem?_eq_none (by simp; omega), List.getElem?_eq_none (by simp; omega)]
theorem wordsIn_succ (b : List UInt8) (k : Nat) (h : k < 64) : wordsIn b (k + 1) = (wordsIn b k).set (k / 4) ((wordsIn b k).getD (k / 4) 0 * 256 + (b.getD k 0).toNat) := by
  apply List.ext_getElem?
  intro j
  rw [List.getElem?_set, wordsIn_len, wordsIn_at _ _ _ (by omega)]
  by_cases hj : k / 4 = j
  · subst hj
    rw [if_pos rfl, if_pos (by omega)]
    unfold wordsIn
    simp only [List.getElem?_map, List.getElem?_range (show k / 4 < 64 by omega), Option.map_some]
    congr 1
    have e : min 4 (k + 1 - 4 * (k / 4)) = min 4 (k - 4 * (k / 4)) + 1 := by omega
    rw [e, partW]
    congr 3
    omega
  · rw [if_neg hj]
    unfold wordsIn
    by_cases hj2 : j < 64
    · simp only [List.getElem?_map, List.getElem?_range hj2, Option.map_some]
      congr 2
      omega
    · simp [hj2]
theorem schedL_len (b : List UInt8) (o i : Nat) : (schedL b o i).length = i := by
  induction i with
  | zero => rfl
  | succ i ih => simp only [schedL, List.length_append, ih, List.length_cons, List.length_nil]
theorem schedL_take (b : List UInt8) (o i j : Nat) (h : j < i) : (schedL b o i).getD j 0 = (schedL b o (j + 1)).getD j 0 := by
  induction i with
  | zero => omega
  | succ i ih =>
    by_cases hj : j = i
    · rw [hj]
    · have e : (schedL b o (i + 1)).getD j 0 = (schedL b o i).getD j 0 := by
        simp only [schedL, List.getD]
        rw [List.getElem?_append_left (by rw [schedL_len]; omega)]
      rw [e, ih (by omega)]
theorem schedL_at (b : List UInt8) (o i : Nat) : (schedL b o (i + 1)).getD i 0 = if i < 16 then wordAt b (o + 4 * i) else ((schedL b o i).getD (i - 16) 0 + (schedL b o i).getD (i - 7) 0 + sml0 ((schedL b o i).getD (i - 15) 0) + sml1 ((schedL b o i).getD (i - 2) 0)) % two32 := by
  have e : (schedL b o (i + 1)).getD i 0 = ([if i < 16 then wordAt b (o + 4 * i) else ((schedL b o i).getD (i - 16) 0 + (schedL b o i).getD (i - 7) 0 + sml0 ((schedL b o i).getD (i - 15) 0) + sml1 ((schedL b o i).getD (i - 2) 0)) % two32] : List Nat).getD 0 0 := by
    conv => lhs; rw [schedL]
    simp only [List.getD]
    rw [List.getElem?_append_right (by rw [schedL_len]; exact Nat.le_refl _), schedL_len, Nat.sub_self]
  rw [e]; rfl
theorem getD_some {l : List Nat} {j : Nat} (h : j < l.length) : l[j]? = some (l.getD j 0) := by simp [List.getD, List.getElem?_eq_getElem h]
/-- Behind the bytes the first sixteen are the schedule's. -/
theorem wordsIn_all (b : List UInt8) (n : Nat) (hn : n ≤ 16) : (wordsIn b 64).take n = schedL b 0 n := by
  apply List.ext_getElem?
  intro j
  by_cases h : j < n
  · rw [List.getElem?_take, if_pos h, getD_some (by rw [wordsIn_len]; omega), getD_some (by rw [schedL_len]; exact h), wordsIn_at _ _ _ (by omega), show min 4 (64 - 4 * j) = 4 by omega, partW_four, schedL_take _ _ _ _ h, schedL_at, if_pos (by omega), Nat.zero_add]
  · rw [List.getElem?_eq_none (by rw [List.length_take]; omega), List.getElem?_eq_none (by rw [schedL_len]; omega)]
end Go.Proofs.YtdolonkeanlaoaaDoor
namespace Go.Proofs.YtdolonkeanlaoaaDoor
open Go.RowKit
attribute [local simp high] st_size st_zero s8_size b64_size b64_zero w64_size w64_zero

theorem Tryd.under111' : Tryd.prog.underlying 111 = some (.array 64 91) := by kernel_rfl
theorem Tryd.size111 : (Tryd.prog.info? 111).map (·.size) = some n64 := by kernel_rfl
theorem results_row {fn : Func} {p : Tmp} {t : TypeId} (h : fn.results = #[.cell p t]) (tmps : Array Value) (w : World) {b : Nat} {vs : List Value} (hp : tmps.getD p undef = .pointer (some ⟨b, 0, none⟩)) {n : Nat} {e : TypeId} (hu : Tryd.prog.underlying t = some (.array n e)) (hs : (Tryd.prog.info? t).map (·.size) = some vs.length) (hI : RowAt w b t vs) :
    (results fn tmps).run Tryd.prog w = .ok (.agg vs.toArray) w := by
  have := run_loadVar_row (P := Tryd.prog) w b t t vs.toArray (0, 0) _ hI.blk hu rfl (by simpa using hs)
  have hp' : tmps[p]?.getD undef = .pointer (some ⟨b, 0, none⟩) := by simpa using hp
  simp only [results, h]
  simp [hp', asAddr, this]
theorem getD_lt {l : List Nat} {n : Nat} (h : ∀ x ∈ l, x < two32) : l.getD n 0 < two32 := by
  simp only [List.getD]
  cases hx : l[n]? with
  | none => show 0 < two32; unfold two32; omega
  | some x => exact h x (List.mem_of_getElem? hx)
theorem wordAt_lt (b : List UInt8) (i : Nat) : wordAt b i < two32 := by
  rw [← partW_four]
  exact partW_lt b i 4 (Nat.le_refl _)
theorem schedL_lt (b : List UInt8) (o i : Nat) : ∀ x ∈ schedL b o i, x < two32 := by
  induction i with
  | zero => simp [schedL]
  | succ i ih =>
    intro x hx
    rw [schedL] at hx
    rcases List.mem_append.1 hx with h | h
    · exact ih x h
    · rw [List.mem_singleton] at h
      rw [h]
      split
      · exact wordAt_lt _ _
      · exact Nat.mod_lt _ (by unfold two32; omega)
theorem take_set_snoc {l : List Nat} {n v : Nat} (h : n < l.length) : (l.set n v).take (n + 1) = l.take n ++ [v] := by
  rw [List.take_succ_eq_append_getElem (by rw [List.length_set]; exact h), List.getElem_set_self, List.take_set_of_le (Nat.le_refl _)]
theorem take_getD {ws l : List Nat} {n j : Nat} (h : ws.take n = l) (hj : j < n) : ws.getD j 0 = l.getD j 0 := by
  rw [← h]; simp only [List.getD]; rw [List.getElem?_take, if_pos hj]
theorem sched_next {b : List UInt8} {k a v : Nat} (hk : 16 ≤ k) (h : a = ((schedL b 0 k).getD (k - 16) 0 + (schedL b 0 k).getD (k - 7) 0 + sml0 ((schedL b 0 k).getD (k - 15) 0) + sml1 ((schedL b 0 k).getD (k - 2) 0)) % two32) (hv : v = a) : schedL b 0 k ++ [v] = schedL b 0 (k + 1) := by
  rw [schedL, if_neg (by omega), hv, h]
set_option maxRecDepth 100000 in
set_option maxHeartbeats 4000000 in
theorem spread_any (b : List UInt8) (w : World) (hb : b.length = 64) : Calls Tryd.prog 71 #[.agg (bv b).toArray] w fun e w' => e = .returned (.agg (wv (schedL b 0 64)).toArray) ∧ Below w.heap.size w w' := by
  have HL := Lib.hid hb
  have hr1 := RowAt.new w 94 (bv b)
  have HB1 := Lib.hid ((Below.refl w.heap.size w).alloc (Nat.le_refl _) (.cells (bv b).toArray 94))
  clear hb
  go_enter Tryd.func71, Tryd.ntmps71
  go_wp2_with fail
  have hr2 := RowAt.new (w.alloc (.cells (bv b).toArray 94)) 111 (wv zeros64)
  have hr3 := RowAt.new ((w.alloc (.cells (bv b).toArray 94)).alloc (.cells (wv zeros64).toArray 111)) 111 (wv zeros64)
  have hbw := ((HB1.out.alloc (by simp) (.cells (wv zeros64).toArray 111))).alloc (by simp; omega) (.cells (wv zeros64).toArray 111)
  replace hr1 := (hr1.kept (Below.heap_alloc _ (.cells (wv zeros64).toArray 111) _ hr1.lt))
  replace hr1 := (hr1.kept (Below.heap_alloc _ (.cells (wv zeros64).toArray 111) _ hr1.lt))
  replace hr2 := (hr2.kept (Below.heap_alloc _ (.cells (wv zeros64).toArray 111) _ hr2.lt))
  simp only [World.size_alloc] at hr2 hr3
  generalize ((w.alloc (.cells (bv b).toArray 94)).alloc (.cells (wv zeros64).toArray 111)).alloc (.cells (wv zeros64).toArray 111) = w3 at *
  obtain ⟨b1, hb1⟩ : ∃ b1, b1 = w.heap.size := ⟨_, rfl⟩
  obtain ⟨b2, hb2⟩ : ∃ b2, b2 = w.heap.size + 1 := ⟨_, rfl⟩
  obtain ⟨b3, hb3⟩ : ∃ b3, b3 = w.heap.size + 1 + 1 := ⟨_, rfl⟩
  have hbd : w.heap.size ≤ b1 ∧ b1 < b2 ∧ b2 < b3 := by omega
  rw [← hb3] at hr3 ⊢
  rw [← hb2] at hr2 ⊢
  have hr1' : RowAt w3 b1 94 (bv b) := by rw [hb1]; exact hr1
  have HX1 := Lib.hid hr1'
  have HX2 := Lib.hid hr2
  have HX3 := Lib.hid hr3
  have HBW := Lib.hid hbw
  obtain ⟨hd1, hd2, hd3⟩ := hbd
  have HB1E := Lib.hid hb1
  clear hr1 hr1' hr2 hr3 hbw hb2 hb3
  have HW0 := Lib.hid (wordsIn_zero b)
  rw [show (Value.pointer (some { block := w.heap.size, off := 0 }) : Value) = .pointer (some ⟨b1, 0, none⟩) by rw [hb1]]
  clear hb1
  go_loopw [8] (fun i wr => ∃ k : Nat, k ≤ 64 ∧ i = .int .i64 k ∧ RowAt wr b1 94 (bv b) ∧ RowAt wr b2 111 (wv zeros64) ∧ RowAt wr b3 111 (wv (wordsIn b k)) ∧ Below w.heap.size w wr) (fun i _ => 64 - (intOf i).toNat)
  case atStart => exact ⟨0, by omega, rfl, HX1.out, HX2.out, by rw [HW0.out]; exact HX3.out, HBW.out⟩
  case round =>
    obtain ⟨k, hk, rfl, hr1, hr2, hr3, hbw⟩ := hrel
    have J1 := Lib.hid hr1
    have J2 := Lib.hid hr2
    have J3 := Lib.hid hr3
    have JB := Lib.hid hbw
    by_cases hlt : k < 64
    · have c1 := (hr1.cell k).trans (bv_getD (by rw [HL.out]; exact hlt))
      have c3 := (hr3.cell (k / 4)).trans (wv_at (by rw [wordsIn_len]; omega))
      have f3 := hr3.free (k / 4)
      have HS := Lib.hid (wordsIn_succ b k hlt)
      have hpl : (wordsIn b k).getD (k / 4) 0 < 16777216 := by
        rw [wordsIn_at _ _ _ (by omega), show min 4 (k - 4 * (k / 4)) = k - 4 * (k / 4) by omega]
        have h1 := partW_lt b (4 * (k / 4)) (k - 4 * (k / 4)) (by omega)
        have h2 : (256 : Nat) ^ (k - 4 * (k / 4)) ≤ 256 ^ 3 := Nat.pow_le_pow_right (by omega) (by omega)
        omega
      have hc8 := (b.getD k 0).toNat_lt
      clear hr1 hr2 hr3 hbw
      have hx0 := wv_at (l := wordsIn b k) (k := k / 4) (by rw [wordsIn_len]; omega)
      generalize (wordsIn b k).getD (k / 4) 0 = x at *
      generalize (b.getD k 0).toNat = y at *
      have hst := (J3.out.kept (w' := wr.drewN 1) rfl).set (k / 4) (.int .u32 ((x * 256 + y : Nat) : Int))
      have c3d := (J3.out.kept (w' := wr.drewN 1) rfl).cell (k / 4)
      have f3d := (J3.out.kept (w' := wr.drewN 1) rfl).free (k / 4)
      rw [hx0] at c3d
      rw [wv_set, ← HS.out] at hst
      have HST := Lib.hid hst
      clear hst
      obtain ⟨q, hq⟩ : ∃ q, q = k / 4 := ⟨_, rfl⟩
      have hw4 : IntKind.i64.wrap ((k : Int) / 4) = (q : Int) := by rw [IntWalk.i64_in _ (by omega)]; omega
      have hq1 : (0 : Int) ≤ (q : Int) := by omega
      have hq2 : (q : Int) < 64 := by omega
      have hq3 : q < 64 := by omega
      rw [← hq] at c3 f3 HST c3d f3d
      have hx1 : IntKind.u32.wrap ((x : Int) * 256) = ((x * 256 : Nat) : Int) := by rw [wrap_u32]; omega
      have hx2 : IntKind.u32.wrap (((x * 256 : Nat) : Int) + (y : Int)) = ((x * 256 + y : Nat) : Int) := by rw [wrap_u32]; omega
      have I1 := Lib.hid (J1.out.kept (w' := wr.drewN 1) rfl)
      have I2 := Lib.hid (J2.out.kept (w' := wr.drewN 1) rfl)
      have IB := Lib.hid (show Below w.heap.size w (wr.drewN 1) from JB.out.trans (below_drewN _ _ _))
      have C3D := Lib.hid c3d
      have F3D := Lib.hid f3d
      clear hq c3d f3d hx0
      go_wp2_with fail
      go_still_tail 13, (by kernel_rfl)
      change wpList _ _ _ _ _ (wr.drewN 1)
      clear c1 c3 f3 J1 J2 J3 JB
      generalize wr.drewN 1 = wd at *
      have c3d := C3D.out
      have f3d := F3D.out
      go_wp2_with fail
      go_roundw
      case rel =>
        refine ⟨k + 1, by omega, by go_num, I1.out.kept (heap_setCell_other _ _ _ _ (by simp; omega)), I2.out.kept (heap_setCell_other _ _ _ _ (by simp; omega)), HST.out, IB.out.setCell (by simp; omega) _⟩
      case measure => simp [intOf]; omega
    · have hk64 : k = 64 := by omega
      have HT : Hid ((wordsIn b k).take 16 = schedL b 0 16) := Lib.hid (by rw [hk64]; exact wordsIn_all b 16 (Nat.le_refl _))
      have HTL := Lib.hid (wordsIn_len b k)
      have hd64 : decide ((k : Int) < 64) = false := by rw [hk64]; rfl
      clear hk64 hlt
      generalize wordsIn b k = ws0 at *
      obtain ⟨wz, hwz⟩ : ∃ wz, wz = wr := ⟨_, rfl⟩
      subst hwz
      clear hr1 hr2 hr3 hbw HX1 HX2 HX3 HBW
      go_wp2_with fail
      go_loopw [25] (fun i wr => ∃ (k : Nat) (ws : List Nat), k ≤ 48 ∧ i = .int .i64 k ∧ ws.length = 64 ∧ ws.take (16 + k) = schedL b 0 (16 + k) ∧ RowAt wr b2 111 (wv zeros64) ∧ RowAt wr b3 111 (wv ws) ∧ Below w.heap.size w wr) (fun i _ => 48 - (intOf i).toNat)
      case atStart => exact ⟨0, ws0, by omega, rfl, HTL.out, HT.out, J2.out, J3.out, JB.out⟩
      case round =>
        obtain ⟨k, ws, hk, rfl, hwl, htk, hr2, hr3, hbw⟩ := hrel
        have HWL := Lib.hid hwl
        have HTK := Lib.hid htk
        have K2 := Lib.hid hr2
        have K3 := Lib.hid hr3
        have KB := Lib.hid hbw
        by_cases hlt : k < 48
        · have hnx := fun v h => @sched_next b (16 + k) _ v (by omega) rfl h
          rw [show 16 + k - 16 = k by omega, show 16 + k - 7 = k + 9 by omega, show 16 + k - 15 = k + 1 by omega, show 16 + k - 2 = k + 14 by omega] at hnx
          have HNX := Lib.hid hnx
          have cc : ∀ n j, j < 16 + k → (wr.drewN n).cell? ⟨b3, j, none⟩ = some (.int .u32 ((schedL b 0 (16 + k)).getD j 0 : Nat)) := fun n j hj => by
            rw [← take_getD HTK.out hj]
            exact (hr3.cell j).trans (wv_at (by rw [hwl]; omega))
          have l0 : (schedL b 0 (16 + k)).getD k 0 < two32 := getD_lt (schedL_lt _ _ _)
          have l1 : (schedL b 0 (16 + k)).getD (k + 1) 0 < two32 := getD_lt (schedL_lt _ _ _)
          have l9 : (schedL b 0 (16 + k)).getD (k + 9) 0 < two32 := getD_lt (schedL_lt _ _ _)
          have l14 : (schedL b 0 (16 + k)).getD (k + 14) 0 < two32 := getD_lt (schedL_lt _ _ _)
          have C0 := Lib.hid (fun n => cc n k (by omega))
          have C1 := Lib.hid (fun n => cc n (k + 1) (by omega))
          have C9 := Lib.hid (fun n => cc n (k + 9) (by omega))
          have C14 := Lib.hid (fun n => cc n (k + 14) (by omega))
          have HTS := Lib.hid (fun v => @take_set_snoc ws (16 + k) v (by omega))
          have hcv := (hr3.cell (16 + k)).trans (wv_at (by omega))
          have hfv := hr3.free (16 + k)
          have HCV := Lib.hid hcv
          have HFV := Lib.hid hfv
          clear hnx cc hwl htk hr2 hr3 hbw hcv hfv
          rw [HTK.out] at HTS
          generalize (schedL b 0 (16 + k)).getD k 0 = a0 at *
          generalize (schedL b 0 (16 + k)).getD (k + 1) 0 = a1 at *
          generalize (schedL b 0 (16 + k)).getD (k + 9) 0 = a9 at *
          generalize (schedL b 0 (16 + k)).getD (k + 14) 0 = a14 at *
          have e : two32 = 2 ^ 32 := rfl
          have r1 := rotN_lt l1 (n := 7) (by omega)
          have r2 := rotN_lt l1 (n := 18) (by omega)
          have r3 := rotN_lt l14 (n := 17) (by omega)
          have r4 := rotN_lt l14 (n := 19) (by omega)
          have x1 := bits_xor_u32_nat _ _ r1 r2
          have x2 := bits_xor_u32_nat (rotN a1 7 ^^^ rotN a1 18) (a1 / 8) (by rw [e] at *; exact Nat.xor_lt_two_pow r1 r2) (by omega)
          have x3 := bits_xor_u32_nat _ _ r3 r4
          have x4 := bits_xor_u32_nat (rotN a14 17 ^^^ rotN a14 19) (a14 / 1024) (by rw [e] at *; exact Nat.xor_lt_two_pow r3 r4) (by omega)
          have hs0 := sml0_lt l1
          have hs1 := sml1_lt l14
          rw [show (rotN a1 7 ^^^ rotN a1 18) ^^^ (a1 / 8) = sml0 a1 from rfl] at x2
          rw [show (rotN a14 17 ^^^ rotN a14 19) ^^^ (a14 / 1024) = sml1 a14 from rfl] at x4
          have R1 := Lib.hid (fun w => rot_any a1 7 (-7) w (by omega) l1 (by omega) (by omega))
          have R2 := Lib.hid (fun w => rot_any a1 18 (-18) w (by omega) l1 (by omega) (by omega))
          have R3 := Lib.hid (fun w => rot_any a14 17 (-17) w (by omega) l14 (by omega) (by omega))
          have R4 := Lib.hid (fun w => rot_any a14 19 (-19) w (by omega) l14 (by omega) (by omega))
          have e1 : ((a1 : Int) / 8) = ((a1 / 8 : Nat) : Int) := by omega
          have e2 : ((a14 : Int) / 1024) = ((a14 / 1024 : Nat) : Int) := by omega
          generalize sml0 a1 = s0 at *
          generalize sml1 a14 = s1 at *
          generalize rotN a1 7 ^^^ rotN a1 18 = y1 at *
          generalize rotN a14 17 ^^^ rotN a14 19 = y2 at *
          generalize rotN a1 7 = p1 at *
          generalize rotN a1 18 = p2 at *
          generalize rotN a14 17 = p3 at *
          generalize rotN a14 19 = p4 at *
          generalize a1 / 8 = q1 at *
          generalize a14 / 1024 = q2 at *
          have hv1 : IntKind.u32.wrap ((a0 : Int) + (s0 : Int)) = (((a0 + s0) % two32 : Nat) : Int) := by rw [wrap_u32]; unfold two32; omega
          have hv2 : IntKind.u32.wrap ((((a0 + s0) % two32 : Nat) : Int) + (a9 : Int)) = (((a0 + s0 + a9) % two32 : Nat) : Int) := by rw [wrap_u32]; unfold two32; omega
          have hv3 : IntKind.u32.wrap ((((a0 + s0 + a9) % two32 : Nat) : Int) + (s1 : Int)) = (((a0 + a9 + s0 + s1) % two32 : Nat) : Int) := by rw [wrap_u32]; unfold two32; omega
          have HV1 := Lib.hid hv1
          have HV2 := Lib.hid hv2
          have HV3 := Lib.hid hv3
          have X1 := Lib.hid x1
          have X2 := Lib.hid x2
          have X3 := Lib.hid x3
          have X4 := Lib.hid x4
          have E1 := Lib.hid e1
          have E2 := Lib.hid e2
          clear hv1 hv2 hv3 x1 x2 x3 x4 e1 e2 e r1 r2 r3 r4
          have d1 : wr.cell? ⟨b3, k + 1, none⟩ = some (.int .u32 (a1 : Int)) := C1.out 0
          have d14 : wr.cell? ⟨b3, k + 14, none⟩ = some (.int .u32 (a14 : Int)) := C14.out 0
          have g1 : (0 : Int) ≤ (k : Int) + 1 := by omega
          have g2 : (k : Int) + 1 < 64 := by omega
          have g4 : (0 : Int) ≤ (k : Int) + 14 := by omega
          have g5 : (k : Int) + 14 < 64 := by omega
          have hk1 : IntKind.i64.wrap ((k : Int) + 1) = (k : Int) + 1 := IntWalk.i64_in _ (by omega)
          have hk14 : IntKind.i64.wrap ((k : Int) + 14) = (k : Int) + 14 := IntWalk.i64_in _ (by omega)
          have g3 : ((k : Int) + 1).toNat = k + 1 := by omega
          have g6 : ((k : Int) + 14).toNat = k + 14 := by omega
          go_wp2_with fail
          go_quiet (fail)
          have c0 : (wr.drewN nq).cell? ⟨b3, k, none⟩ = some (.int .u32 (a0 : Int)) := C0.out nq
          have c9 : (wr.drewN nq).cell? ⟨b3, k + 9, none⟩ = some (.int .u32 (a9 : Int)) := C9.out nq
          have J2' := Lib.hid (K2.out.kept (w' := wr.drewN nq) rfl)
          have J3' := Lib.hid (K3.out.kept (w' := wr.drewN nq) rfl)
          have JB' := Lib.hid (show Below w.heap.size w (wr.drewN nq) from KB.out.trans (below_drewN _ _ _))
          have hcv : ∃ u, (wr.drewN nq).cell? ⟨b3, 16 + k, none⟩ = some u := ⟨_, HCV.out⟩
          have hfv : (wr.drewN nq).frozen? ⟨b3, 16 + k, none⟩ = false := HFV.out
          clear d1 d14 K2 K3 KB HCV HFV C0 C1 C9 C14
          generalize wr.drewN nq = wq at *
          have C0 := Lib.hid c0
          have C9 := Lib.hid c9
          have HCV := Lib.hid hcv
          have HFV := Lib.hid hfv
          clear c0 c9 hcv hfv hk1 hk14 g1 g2 g3 g4 g5 g6
          go_wp2_with fail
          refine (R1.out _).mono ?_
          rintro e w' ⟨rfl, rfl⟩
          go_wp2_with fail
          refine (R2.out _).mono ?_
          rintro e w' ⟨rfl, rfl⟩
          have x1 := X1.out
          have x2 := X2.out
          have e1 := E1.out
          go_wp2_with fail
          refine (R3.out _).mono ?_
          rintro e w' ⟨rfl, rfl⟩
          go_wp2_with fail
          refine (R4.out _).mono ?_
          rintro e w' ⟨rfl, rfl⟩
          have x3 := X3.out
          have x4 := X4.out
          have e2 := E2.out
          go_wp2_with fail
          clear x1 x2 x3 x4 e1 e2
          have c0 := C0.out
          have c9 := C9.out
          have hv1 := HV1.out
          have hv2 := HV2.out
          have hv3 := HV3.out
          obtain ⟨u, hcv⟩ := HCV.out
          have hfv := HFV.out
          rw [show 16 + k = k + 16 by omega] at hcv hfv
          have hcd : (wq.drewN 1).cell? ⟨b3, k + 16, none⟩ = some u := hcv
          have hfd : (wq.drewN 1).frozen? ⟨b3, k + 16, none⟩ = false := hfv
          have HCD := Lib.hid hcd
          have HFD := Lib.hid hfd
          have I2 := Lib.hid (J2'.out.kept (w' := wq.drewN 1) rfl)
          have hst := (J3'.out.kept (w' := wq.drewN 1) rfl).set (k + 16) (.int .u32 (((a0 + a9 + s0 + s1) % two32 : Nat) : Int))
          rw [wv_set] at hst
          have HST := Lib.hid hst
          have IB := Lib.hid (show Below w.heap.size w (wq.drewN 1) from JB'.out.trans (below_drewN _ _ _))
          have HNV := Lib.hid (HNX.out ((a0 + a9 + s0 + s1) % two32) rfl)
          have HTV := Lib.hid (HTS.out ((a0 + a9 + s0 + s1) % two32))
          generalize (a0 + a9 + s0 + s1) % two32 = z at *
          generalize (a0 + s0 + a9) % two32 = z2 at *
          generalize (a0 + s0) % two32 = z1 at *
          clear hcv hfv hcd hfd hst J2' J3' JB' HTS HNX
          have g4 : (0 : Int) ≤ (k : Int) + 9 := by omega
          have g5 : (k : Int) + 9 < 64 := by omega
          have g7 : (0 : Int) ≤ (k : Int) + 16 := by omega
          have g8 : (k : Int) + 16 < 64 := by omega
          have hk9 : IntKind.i64.wrap ((k : Int) + 9) = (k : Int) + 9 := IntWalk.i64_in _ (by omega)
          have hk16 : IntKind.i64.wrap ((k : Int) + 16) = (k : Int) + 16 := IntWalk.i64_in _ (by omega)
          have g6 : ((k : Int) + 9).toNat = k + 9 := by omega
          have g9 : ((k : Int) + 16).toNat = k + 16 := by omega
          have g10 : (0 : Int) ≤ (k : Int) := by omega
          have g11 : (k : Int) < 64 := by omega
          go_still_tail 15, (by kernel_rfl)
          change wpList _ _ _ _ _ (wq.drewN 1)
          clear c0 c9
          generalize wq.drewN 1 = wd at *
          have hcd := HCD.out
          have hfd := HFD.out
          clear hk9 hk16 g4 g5 g6 g7 g8 g9 hv1 hv2 hv3
          go_wp2_with fail
          go_roundw
          case rel =>
            refine ⟨k + 1, ws.set (16 + k) z, by omega, by go_num, by rw [List.length_set]; exact HWL.out, by rw [show 16 + (k + 1) = 16 + k + 1 by omega, HTV.out]; exact HNV.out, I2.out.kept (heap_setCell_other _ _ _ _ (by simp; omega)), by rw [show 16 + k = k + 16 by omega]; exact HST.out, IB.out.setCell (by simp; omega) _⟩
          case measure => simp [intOf]; omega
        · have hk48 : k = 48 := by omega
          have hws : ws = schedL b 0 64 := by
            have h := htk
            rw [hk48] at h
            rw [← h]; exact (List.take_of_length_le (by omega)).symm
          have hd48 : decide ((k : Int) < 48) = false := by rw [hk48]; rfl
          have zl : (wv ws).length = n64 := by rw [wv_len, hwl]; rfl
          clear hk48 hlt
          have HWS := Lib.hid hws
          have c3 := hr3.cells (n := n64) (by rw [wv_len, hwl]; rfl)
          have c2 := hr2.write (vs := wv ws) (by rw [wv_len, wv_len, hwl]; rfl) (wv_one ws)
          have HP := Lib.hid (hr2.put (wv ws))
          have HBF := Lib.hid (below_setRow hbw (show w.heap.size ≤ b2 by omega) (wv ws).toArray)
          clear hwl htk hr2 hr3 hbw hws
          go_wp2_with fail
          refine bodyPost_ret (v := .agg (wv ws).toArray) (results_row rfl _ _ rfl Tryd.under111' (by rw [zl]; exact Tryd.size111) HP.out) rfl ⟨by rw [HWS.out], HBF.out⟩
end Go.Proofs.YtdolonkeanlaoaaDoor
namespace Go.Proofs.YtdolonkeanlaoaaDoor
open Go.RowKit
attribute [local simp high] st_zero b64_size b64_zero w64_size w64_zero

/-- The package's tables lie where the program's text lays them. -/
structure Env (w : World) : Prop where
  first : ∀ j, j < 8 → w.cell? ⟨0, j, none⟩ = some (.int .u32 (startL.getD j 0 : Nat))
  rounds : ∀ j, j < 64 → w.cell? ⟨1, j, none⟩ = some (.int .u32 (partsL.getD j 0 : Nat))
  big : 2 ≤ w.heap.size
theorem Env.below {w w' : World} (h : Env w) {B : Nat} (hB : 2 ≤ B) (hb : Below B w w') : Env w' where
  first := fun j hj => by rw [hb.cell (p := ⟨0, j, none⟩) (by show 0 < B; omega)]; exact h.first j hj
  rounds := fun j hj => by rw [hb.cell (p := ⟨1, j, none⟩) (by show 1 < B; omega)]; exact h.rounds j hj
  big := by have := h.big; have := hb.size; omega
theorem Env.on {w w' : World} (h : Env w) (hb : Below w.heap.size w w') : Env w' := h.below h.big hb
theorem quiet_left' {P : Program} {f : FuncId} {args : Array Value} {w : World} {n : Nat} {v : Value}
    (h : Calls P f args (w.drewN n) fun e w' => e = .returned v ∧ w.drewN n = w') : Calls P f args (w.drewN n) fun e w'' => e = .returned v ∧ ∃ m, w'' = w.drewN m :=
  h.mono fun _ _ ⟨he, hm⟩ => ⟨he, n, hm.symm⟩
theorem not_xor {e : Nat} (h : e < two32) : 4294967295 ^^^ e = 4294967295 - e := by
  apply Nat.eq_of_testBit_eq
  intro i
  have e1 : (4294967295 : Nat) = 2 ^ 32 - 1 := rfl
  have h' : e < 2 ^ 32 := h
  rw [Nat.testBit_xor, e1, Nat.testBit_two_pow_sub_one, show 2 ^ 32 - 1 - e = 2 ^ 32 - (e + 1) by omega, Nat.testBit_two_pow_sub_succ h']
  by_cases hi : i < 32
  · simp [hi]
  · have : e.testBit i = false := Nat.testBit_lt_two_pow (Nat.lt_of_lt_of_le h' (Nat.pow_le_pow_right (by omega) (by omega)))
    simp [hi, this]
def addL (xs vs : List Nat) : Nat → List Nat
  | 0 => xs
  | k + 1 => (addL xs vs k).set k (((addL xs vs k).getD k 0 + vs.getD k 0) % two32)
theorem addL_len (x : Eight) (vs : List Nat) (k : Nat) : (addL x.list vs k).length = 8 := by
  induction k with
  | zero => rfl
  | succ k ih => simp only [addL, List.length_set, ih]
theorem addL_all (x v : Eight) : addL x.list v.list 8 = (addE v x).list := by
  simp only [addL, Eight.list, addE, List.getD, List.set, List.getElem?_cons_zero, List.getElem?_cons_succ, Option.getD_some]
  simp only [Nat.add_comm]
theorem Tryd.under93' : Tryd.prog.underlying 93 = some (.array 8 91) := by kernel_rfl
theorem Tryd.size93 : (Tryd.prog.info? 93).map (·.size) = some 8 := by kernel_rfl
theorem eight_len (v : Eight) : (wv v.list).length = 8 := rfl
set_option maxRecDepth 100000 in
set_option maxHeartbeats 4000000 in
theorem taken_any (v : Eight) (b : List UInt8) (w : World) (hv : ∀ x ∈ v.list, x < two32) (hb : b.length = 64) (hE : Env w) : Calls Tryd.prog 52 #[.agg (wv v.list).toArray, .agg (bv b).toArray] w fun e w' => e = .returned (.agg (wv (blockN b 0 v).list).toArray) ∧ Below w.heap.size w w' := by
  have HV := Lib.hid hv
  have HL := Lib.hid hb
  have HE := Lib.hid hE
  have HSP := Lib.hid (fun w => spread_any b w hb)
  have hr1 := RowAt.new w 93 (wv v.list)
  have hr2 := RowAt.new (w.alloc (.cells (wv v.list).toArray 93)) 94 (bv b)
  have hr4 := RowAt.new ((w.alloc (.cells (wv v.list).toArray 93)).alloc (.cells (bv b).toArray 94)) 93 (wv zeros8)
  have hbw := (((Below.refl w.heap.size w).alloc (Nat.le_refl _) (.cells (wv v.list).toArray 93)).alloc (by simp) (.cells (bv b).toArray 94)).alloc (by simp; omega) (.cells (wv zeros8).toArray 93)
  replace hr1 := (hr1.kept (Below.heap_alloc _ (.cells (bv b).toArray 94) _ hr1.lt))
  replace hr1 := (hr1.kept (Below.heap_alloc _ (.cells (wv zeros8).toArray 93) _ hr1.lt))
  replace hr2 := (hr2.kept (Below.heap_alloc _ (.cells (wv zeros8).toArray 93) _ hr2.lt))
  simp only [World.size_alloc] at hr2 hr4
  have c2 := hr2.cells (n := n64) (by rw [bv_len, hb]; rfl)
  have HR1 := Lib.hid hr1
  have HR4 := Lib.hid hr4
  have HBW := Lib.hid hbw
  clear hv hb hE hr1 hr2 hr4 hbw
  go_enter Tryd.func52, Tryd.ntmps52
  go_wp2_with fail
  generalize ((w.alloc (.cells (wv v.list).toArray 93)).alloc (.cells (bv b).toArray 94)).alloc (.cells (wv zeros8).toArray 93) = w3 at *
  obtain ⟨b1, hb1⟩ : ∃ b1, b1 = w.heap.size := ⟨_, rfl⟩
  obtain ⟨b4, hb4⟩ : ∃ b4, b4 = w.heap.size + 1 + 1 := ⟨_, rfl⟩
  have hbd : w.heap.size ≤ b1 ∧ b1 < b4 ∧ b4 < w3.heap.size := by have := HR4.out.lt; omega
  rw [← hb4] at HR4 ⊢
  rw [← hb1] at HR1
  rw [show (Value.pointer (some { block := w.heap.size, off := 0 }) : Value) = .pointer (some ⟨b1, 0, none⟩) by rw [hb1]]
  obtain ⟨hd1, hd2, hd3⟩ := hbd
  clear hb1 hb4 c2
  refine (HSP.out _).mono ?_
  rintro e w4 ⟨rfl, hb⟩
  have hs4 := hb.size
  have HX1 := Lib.hid (HR1.out.kept (hb.block b1 (by omega)))
  have HX4 := Lib.hid (HR4.out.kept (hb.block b4 (by omega)))
  have HBW4 := Lib.hid (HBW.out.trans (hb.mono HBW.out.size))
  have HLL := Lib.hid (schedL_len b 0 64)
  have HBN : Hid (blockN b 0 v = addE v (roundsN (schedL b 0 64) v 64)) := Lib.hid rfl
  have HLT := Lib.hid (schedL_lt b 0 64)
  generalize schedL b 0 64 = L at *
  have hn5 := RowAt.new w4 111 (wv zeros64)
  have c5 := hn5.write (vs := wv L) (by rw [wv_len, wv_len, HLL.out]; rfl) (wv_one L)
  have zl : (wv L).length = n64 := by rw [wv_len, HLL.out]; rfl
  have HN5 := Lib.hid (hn5.put (wv L))
  have HX1' := Lib.hid ((HX1.out.kept (Below.heap_alloc w4 (.cells (wv zeros64).toArray 111) b1 (by omega))).kept (setRow_other _ w4.heap.size b1 (wv L).toArray (by omega)))
  have HX4' := Lib.hid ((HX4.out.kept (Below.heap_alloc w4 (.cells (wv zeros64).toArray 111) b4 (by omega))).kept (setRow_other _ w4.heap.size b4 (wv L).toArray (by omega)))
  have HBW5 := Lib.hid (below_setRow (HBW4.out.alloc HBW4.out.size (.cells (wv zeros64).toArray 111)) HBW4.out.size (wv L).toArray)
  clear hb hn5 HX1 HX4 HR1 HR4 HBW
  go_upto_region 2 with fail
  clear c5
  obtain ⟨b5, hb5⟩ : ∃ b5, b5 = w4.heap.size := ⟨_, rfl⟩
  have hd5 : b4 < b5 := by omega
  rw [← hb5] at HN5 HX1' HX4' HBW5 ⊢
  clear hb5
  generalize (w4.alloc (.cells (wv zeros64).toArray 111)).setRow b5 (wv L).toArray = w5 at *
  have HE5 := Lib.hid (HE.out.on HBW5.out)
  have q0 : w5.cell? ⟨b1, 0, none⟩ = some (.int .u32 (v.a : Int)) := HX1'.out.cell 0
  have q1 : w5.cell? ⟨b1, 1, none⟩ = some (.int .u32 (v.b : Int)) := HX1'.out.cell 1
  have q2 : w5.cell? ⟨b1, 2, none⟩ = some (.int .u32 (v.c : Int)) := HX1'.out.cell 2
  have q3 : w5.cell? ⟨b1, 3, none⟩ = some (.int .u32 (v.d : Int)) := HX1'.out.cell 3
  have q4 : w5.cell? ⟨b1, 4, none⟩ = some (.int .u32 (v.e : Int)) := HX1'.out.cell 4
  have q5 : w5.cell? ⟨b1, 5, none⟩ = some (.int .u32 (v.f : Int)) := HX1'.out.cell 5
  have q6 : w5.cell? ⟨b1, 6, none⟩ = some (.int .u32 (v.g : Int)) := HX1'.out.cell 6
  have q7 : w5.cell? ⟨b1, 7, none⟩ = some (.int .u32 (v.h : Int)) := HX1'.out.cell 7
  go_wp2_with fail
  go_quiet (fail)
  clear q0 q1 q2 q3 q4 q5 q6 q7
  go_wp2_with fail
  go_loopw [6, 7, 8, 9, 10, 11, 12, 13, 37] (fun s6 s7 s8 s9 s10 s11 s12 s13 i wr => ∃ (k n : Nat) (x : Eight), x = roundsN L v k ∧ k ≤ 64 ∧ i = .int .i64 k ∧ s6 = .int .u32 x.a ∧ s7 = .int .u32 x.b ∧ s8 = .int .u32 x.c ∧ s9 = .int .u32 x.d ∧ s10 = .int .u32 x.e ∧ s11 = .int .u32 x.f ∧ s12 = .int .u32 x.g ∧ s13 = .int .u32 x.h ∧ (∀ y ∈ x.list, y < two32) ∧ wr = w5.drewN n) (fun _ _ _ _ _ _ _ _ i _ => 64 - (intOf i).toNat)
  case atStart => exact ⟨0, nq, v, rfl, by omega, rfl, rfl, rfl, rfl, rfl, rfl, rfl, rfl, rfl, HV.out, rfl⟩
  case round =>
    obtain ⟨k, n, x, hx, hk, rfl, rfl, rfl, rfl, rfl, rfl, rfl, rfl, rfl, hxl, hwr⟩ := hrel
    by_cases hlt : k < 64
    · obtain ⟨a, b', c, d, e, f, g, h⟩ := x
      have la : a < two32 := hxl a (by simp [Eight.list])
      have lb : b' < two32 := hxl b' (by simp [Eight.list])
      have lc : c < two32 := hxl c (by simp [Eight.list])
      have ld : d < two32 := hxl d (by simp [Eight.list])
      have le : e < two32 := hxl e (by simp [Eight.list])
      have lf : f < two32 := hxl f (by simp [Eight.list])
      have lg : g < two32 := hxl g (by simp [Eight.list])
      have lh : h < two32 := hxl h (by simp [Eight.list])
      have hg1 : wr.cell? ⟨1, k, none⟩ = some (.int .u32 (partsL.getD k 0 : Nat)) := by rw [hwr]; exact HE5.out.rounds k hlt
      have hg2 : wr.cell? ⟨b5, k, none⟩ = some (.int .u32 (L.getD k 0 : Nat)) := by rw [hwr]; exact (HN5.out.cell k).trans (wv_at (by rw [HLL.out]; exact hlt))
      have HT1 := Lib.hid (fun w => turned_any e 6 11 25 w le (by omega) (by omega) (by omega))
      have HT2 := Lib.hid (fun w => turned_any a 2 13 22 w la (by omega) (by omega) (by omega))
      have e32 : two32 = 2 ^ 32 := rfl
      have hsg : (if IntKind.u32.signed = true then (-1 : Int) else IntKind.u32.max) = 4294967295 := rfl
      have ln : 4294967295 - e < two32 := by unfold two32; omega
      have fn : bits .xor .u32 4294967295 (e : Int) = ((4294967295 - e : Nat) : Int) := by
        have h1 := bits_xor_u32_nat 4294967295 e (by unfold two32; omega) le
        rw [not_xor le] at h1
        exact h1
      have fa := bits_and_u32_nat e f le lf
      have fb := bits_and_u32_nat (4294967295 - e) g ln lg
      have fc := bits_xor_u32_nat (e &&& f) ((4294967295 - e) &&& g) (Nat.lt_of_le_of_lt Nat.and_le_left le) (Nat.lt_of_le_of_lt Nat.and_le_left ln)
      have ma := bits_and_u32_nat a b' la lb
      have mb := bits_and_u32_nat a c la lc
      have mc := bits_xor_u32_nat (a &&& b') (a &&& c) (Nat.lt_of_le_of_lt Nat.and_le_left la) (Nat.lt_of_le_of_lt Nat.and_le_left la)
      have md := bits_and_u32_nat b' c lb lc
      have me := bits_xor_u32_nat ((a &&& b') ^^^ (a &&& c)) (b' &&& c) (by rw [e32] at *; exact Nat.xor_lt_two_pow (Nat.lt_of_le_of_lt Nat.and_le_left la) (Nat.lt_of_le_of_lt Nat.and_le_left la)) (Nat.lt_of_le_of_lt Nat.and_le_left lb)
      have HRN : Hid (roundN ⟨a, b', c, d, e, f, g, h⟩ (partsL.getD k 0) (L.getD k 0) = ⟨(h + big1 e + chooseN e f g + partsL.getD k 0 + L.getD k 0 + (big0 a + mostN a b' c)) % two32, a, b', c, (d + (h + big1 e + chooseN e f g + partsL.getD k 0 + L.getD k 0)) % two32, e, f, g⟩) := Lib.hid rfl
      have HRS : Hid (roundsN L v (k + 1) = roundN (roundsN L v k) (partsL.getD k 0) (L.getD k 0)) := Lib.hid rfl
      rw [← hx] at HRS
      rw [HRN.out] at HRS
      rw [show (e &&& f) ^^^ ((4294967295 - e) &&& g) = chooseN e f g from rfl] at fc
      rw [show ((a &&& b') ^^^ (a &&& c)) ^^^ (b' &&& c) = mostN a b' c from rfl] at me
      rw [show ((rotN e 6 ^^^ rotN e 11) ^^^ rotN e 25) = big1 e from rfl] at HT1
      rw [show ((rotN a 2 ^^^ rotN a 13) ^^^ rotN a 22) = big0 a from rfl] at HT2
      generalize chooseN e f g = ch at *
      generalize mostN a b' c = mo at *
      generalize big1 e = B1 at *
      generalize big0 a = B0 at *
      generalize partsL.getD k 0 = K at *
      generalize L.getD k 0 = W at *
      generalize (a &&& b') ^^^ (a &&& c) = m3 at *
      generalize a &&& b' = m1 at *
      generalize a &&& c = m2 at *
      generalize b' &&& c = m4 at *
      generalize e &&& f = p1 at *
      generalize (4294967295 - e) &&& g = p2 at *
      generalize 4294967295 - e = ne at *
      have MA := Lib.hid ma
      have MB := Lib.hid mb
      have MC := Lib.hid mc
      have MD := Lib.hid md
      have ME := Lib.hid me
      have g10 : (0 : Int) ≤ (k : Int) := by omega
      have g11 : (k : Int) < 64 := by omega
      have HWR := Lib.hid hwr
      have LT := Lib.hid (And.intro la (And.intro lb (And.intro lc (And.intro le (And.intro lf lg)))))
      clear hwr hxl HRN hx ma mb mc md me e32 ln la lb lc ld le lf lg lh
      go_wp2_with fail
      go_quiet ((go_at_call 72; exact quiet_left' (HT1.out _)))
      clear fn fa fb fc hsg hg1 hg2
      go_wp2_with fail
      refine (HT2.out _).mono ?_
      rintro e' w' ⟨rfl, rfl⟩
      have ma := MA.out
      have mb := MB.out
      have mc := MC.out
      have md := MD.out
      have me := ME.out
      go_wp2_with fail
      go_roundw
      case rel =>
        obtain ⟨la, lb, lc, le, lf, lg⟩ := LT.out
        refine ⟨k + 1, n + nq, _, HRS.out.symm, by omega, by go_num, congrArg (Value.int .u32) (by show _ = (((h + B1 + ch + K + W + (B0 + mo)) % two32 : Nat) : Int); unfold two32; omega), rfl, rfl, rfl, congrArg (Value.int .u32) (by show _ = (((d + (h + B1 + ch + K + W)) % two32 : Nat) : Int); unfold two32; omega), rfl, rfl, rfl, ?_, by rw [HWR.out, World.drewN_drewN]⟩
        intro y hy
        have hm : ∀ z : Nat, z % two32 < two32 := fun z => Nat.mod_lt _ (by unfold two32; omega)
        simp only [Eight.list, List.mem_cons, List.not_mem_nil, or_false] at hy
        rcases hy with rfl | rfl | rfl | rfl | rfl | rfl | rfl | rfl
        · exact hm _
        · exact la
        · exact lb
        · exact lc
        · exact hm _
        · exact le
        · exact lf
        · exact lg
      case measure => simp [intOf]; omega
    · have hk64 : k = 64 := by omega
      have hd64 : decide ((k : Int) < 64) = false := by rw [hk64]; rfl
      have HXE : Hid (blockN b 0 v = addE v x) := Lib.hid (by rw [HBN.out, hx, hk64])
      have HXL := Lib.hid hxl
      have J1 := Lib.hid (show RowAt wr b1 93 (wv v.list) by rw [hwr]; exact HX1'.out.kept rfl)
      have J4 := Lib.hid (show RowAt wr b4 93 (wv zeros8) by rw [hwr]; exact HX4'.out.kept rfl)
      have JB := Lib.hid (show Below w.heap.size w wr by rw [hwr]; exact HBW5.out.trans (below_drewN _ _ _))
      have hn6 := RowAt.new wr 93 (wv zeros8)
      have J6 := Lib.hid hn6
      have hls : ((((((((wv zeros8).set 0 (.int .u32 (x.a : Int))).set 1 (.int .u32 (x.b : Int))).set 2 (.int .u32 (x.c : Int))).set 3 (.int .u32 (x.d : Int))).set 4 (.int .u32 (x.e : Int))).set 5 (.int .u32 (x.f : Int))).set 6 (.int .u32 (x.g : Int))).set 7 (.int .u32 (x.h : Int)) = wv x.list := rfl
      have c6 := hn6.write (vs := ((((((((wv zeros8).set 0 (.int .u32 (x.a : Int))).set 1 (.int .u32 (x.b : Int))).set 2 (.int .u32 (x.c : Int))).set 3 (.int .u32 (x.d : Int))).set 4 (.int .u32 (x.e : Int))).set 5 (.int .u32 (x.f : Int))).set 6 (.int .u32 (x.g : Int))).set 7 (.int .u32 (x.h : Int))) rfl (by rw [hls]; exact wv_one _)
      have J6' : Hid (RowAt ((wr.alloc (.cells (wv zeros8).toArray 93)).setRow wr.heap.size (((((((((wv zeros8).set 0 (.int .u32 (x.a : Int))).set 1 (.int .u32 (x.b : Int))).set 2 (.int .u32 (x.c : Int))).set 3 (.int .u32 (x.d : Int))).set 4 (.int .u32 (x.e : Int))).set 5 (.int .u32 (x.f : Int))).set 6 (.int .u32 (x.g : Int))).set 7 (.int .u32 (x.h : Int))).toArray) wr.heap.size 93 (wv x.list)) := Lib.hid (hn6.put _)
      have hk1 := fun q (hq : q < wr.heap.size) => (setRow_other (wr.alloc (.cells (wv zeros8).toArray 93)) wr.heap.size q (((((((((wv zeros8).set 0 (.int .u32 (x.a : Int))).set 1 (.int .u32 (x.b : Int))).set 2 (.int .u32 (x.c : Int))).set 3 (.int .u32 (x.d : Int))).set 4 (.int .u32 (x.e : Int))).set 5 (.int .u32 (x.f : Int))).set 6 (.int .u32 (x.g : Int))).set 7 (.int .u32 (x.h : Int))).toArray (by omega)).trans (Below.heap_alloc wr (.cells (wv zeros8).toArray 93) q hq)
      have J1' := Lib.hid (J1.out.kept (hk1 b1 J1.out.lt))
      have J4' := Lib.hid (J4.out.kept (hk1 b4 J4.out.lt))
      have JB' := Lib.hid (below_setRow (JB.out.alloc JB.out.size (.cells (wv zeros8).toArray 93)) JB.out.size (((((((((wv zeros8).set 0 (.int .u32 (x.a : Int))).set 1 (.int .u32 (x.b : Int))).set 2 (.int .u32 (x.c : Int))).set 3 (.int .u32 (x.d : Int))).set 4 (.int .u32 (x.e : Int))).set 5 (.int .u32 (x.f : Int))).set 6 (.int .u32 (x.g : Int))).set 7 (.int .u32 (x.h : Int))).toArray)
      have h4r := J4.out.lt
      clear hk1 hls
      clear hk64 hx hxl hwr hn6 hlt
      go_upto_region 11 with fail
      clear c6
      obtain ⟨b6, hb6⟩ : ∃ b6, b6 = wr.heap.size := ⟨_, rfl⟩
      rw [← hb6] at J6' J1' J4' JB' ⊢
      have hd6 : b4 < b6 := by omega
      clear hb6
      generalize (wr.alloc (.cells (wv zeros8).toArray 93)).setRow b6 (((((((((wv zeros8).set 0 (.int .u32 (x.a : Int))).set 1 (.int .u32 (x.b : Int))).set 2 (.int .u32 (x.c : Int))).set 3 (.int .u32 (x.d : Int))).set 4 (.int .u32 (x.e : Int))).set 5 (.int .u32 (x.f : Int))).set 6 (.int .u32 (x.g : Int))).set 7 (.int .u32 (x.h : Int))).toArray = w7 at *
      go_wp2_with fail
      go_loopw [97] (fun i wr => ∃ k : Nat, k ≤ 8 ∧ i = .int .i64 k ∧ RowAt wr b1 93 (wv v.list) ∧ RowAt wr b4 93 (wv zeros8) ∧ RowAt wr b6 93 (wv (addL x.list v.list k)) ∧ Below w.heap.size w wr) (fun i _ => 8 - (intOf i).toNat)
      case atStart => exact ⟨0, by omega, rfl, J1'.out, J4'.out, J6'.out, JB'.out⟩
      case round =>
        obtain ⟨k, hk, rfl, hr1, hr4, hr6, hbw⟩ := hrel
        by_cases hlt : k < 8
        · have c1 := (hr1.cell k).trans (wv_at (by show k < 8; exact hlt))
          have c6 := (hr6.cell k).trans (wv_at (by rw [addL_len]; exact hlt))
          have hst := (hr6.kept (w' := wr.drewN 1) rfl).set k (.int .u32 ((((addL x.list v.list k).getD k 0 + v.list.getD k 0) % two32 : Nat) : Int))
          rw [wv_set] at hst
          have HST : Hid (RowAt ((wr.drewN 1).setCell ⟨b6, k, none⟩ (.int .u32 ((((addL x.list v.list k).getD k 0 + v.list.getD k 0) % two32 : Nat) : Int))) b6 93 (wv (addL x.list v.list (k + 1)))) := Lib.hid hst
          have hfd : (wr.drewN 1).frozen? ⟨b6, k, none⟩ = false := hr6.free k
          have hcd : (wr.drewN 1).cell? ⟨b6, k, none⟩ = some (.int .u32 ((addL x.list v.list k).getD k 0 : Nat)) := c6
          have I1 := Lib.hid (hr1.kept (w' := wr.drewN 1) rfl)
          have I4 := Lib.hid (hr4.kept (w' := wr.drewN 1) rfl)
          have IB := Lib.hid (show Below w.heap.size w (wr.drewN 1) from hbw.trans (below_drewN _ _ _))
          generalize (addL x.list v.list k).getD k 0 = p at *
          generalize v.list.getD k 0 = q at *
          have hw : IntKind.u32.wrap ((p : Int) + (q : Int)) = (((p + q) % two32 : Nat) : Int) := by rw [wrap_u32]; unfold two32; omega
          generalize (p + q) % two32 = z at *
          have HFD := Lib.hid hfd
          have HCD := Lib.hid hcd
          have g10 : (0 : Int) ≤ (k : Int) := by omega
          have g11 : (k : Int) < 8 := by omega
          clear hr1 hr4 hr6 hbw hst hfd hcd
          go_wp2_with fail
          go_still_tail 8, (by kernel_rfl)
          change wpList _ _ _ _ _ (wr.drewN 1)
          clear c1 c6
          generalize wr.drewN 1 = wd at *
          have hcd := HCD.out
          have hfd := HFD.out
          clear hw
          go_wp2_with fail
          go_roundw
          case rel => exact ⟨k + 1, by omega, by go_num, I1.out.kept (heap_setCell_other _ _ _ _ (by simp; omega)), I4.out.kept (heap_setCell_other _ _ _ _ (by simp; omega)), HST.out, IB.out.setCell (by simp; omega) _⟩
          case measure => simp [intOf]; omega
        · have hk8 : k = 8 := by omega
          have hd8 : decide ((k : Int) < 8) = false := by rw [hk8]; rfl
          have hal : addL x.list v.list k = (addE v x).list := by rw [hk8]; exact addL_all x v
          rw [hal] at hr6
          have HFE : Hid ((addE v x).list = (blockN b 0 v).list) := Lib.hid (by rw [HXE.out])
          generalize addE v x = y at *
          have y0 : wr.cell? ⟨b6, 0, none⟩ = some (.int .u32 (y.a : Int)) := hr6.cell 0
          have y1 : wr.cell? ⟨b6, 1, none⟩ = some (.int .u32 (y.b : Int)) := hr6.cell 1
          have y2 : wr.cell? ⟨b6, 2, none⟩ = some (.int .u32 (y.c : Int)) := hr6.cell 2
          have y3 : wr.cell? ⟨b6, 3, none⟩ = some (.int .u32 (y.d : Int)) := hr6.cell 3
          have y4 : wr.cell? ⟨b6, 4, none⟩ = some (.int .u32 (y.e : Int)) := hr6.cell 4
          have y5 : wr.cell? ⟨b6, 5, none⟩ = some (.int .u32 (y.f : Int)) := hr6.cell 5
          have y6 : wr.cell? ⟨b6, 6, none⟩ = some (.int .u32 (y.g : Int)) := hr6.cell 6
          have y7 : wr.cell? ⟨b6, 7, none⟩ = some (.int .u32 (y.h : Int)) := hr6.cell 7
          have z0 : wr.cell? ⟨b4, 0, none⟩ = some (.int .u32 0) := hr4.cell 0
          have f0 : wr.frozen? ⟨b4, 0, none⟩ = false := hr4.free 0
          have z1 : wr.cell? ⟨b4, 1, none⟩ = some (.int .u32 0) := hr4.cell 1
          have f1 : wr.frozen? ⟨b4, 1, none⟩ = false := hr4.free 1
          have z2 : wr.cell? ⟨b4, 2, none⟩ = some (.int .u32 0) := hr4.cell 2
          have f2 : wr.frozen? ⟨b4, 2, none⟩ = false := hr4.free 2
          have z3 : wr.cell? ⟨b4, 3, none⟩ = some (.int .u32 0) := hr4.cell 3
          have f3 : wr.frozen? ⟨b4, 3, none⟩ = false := hr4.free 3
          have z4 : wr.cell? ⟨b4, 4, none⟩ = some (.int .u32 0) := hr4.cell 4
          have f4 : wr.frozen? ⟨b4, 4, none⟩ = false := hr4.free 4
          have z5 : wr.cell? ⟨b4, 5, none⟩ = some (.int .u32 0) := hr4.cell 5
          have f5 : wr.frozen? ⟨b4, 5, none⟩ = false := hr4.free 5
          have z6 : wr.cell? ⟨b4, 6, none⟩ = some (.int .u32 0) := hr4.cell 6
          have f6 : wr.frozen? ⟨b4, 6, none⟩ = false := hr4.free 6
          have z7 : wr.cell? ⟨b4, 7, none⟩ = some (.int .u32 0) := hr4.cell 7
          have f7 : wr.frozen? ⟨b4, 7, none⟩ = false := hr4.free 7
          have HP := Lib.hid (show RowAt _ b4 93 (wv y.list) from ((((((((hr4.set 0 (.int .u32 (y.a : Int))).set 1 (.int .u32 (y.b : Int))).set 2 (.int .u32 (y.c : Int))).set 3 (.int .u32 (y.d : Int))).set 4 (.int .u32 (y.e : Int))).set 5 (.int .u32 (y.f : Int))).set 6 (.int .u32 (y.g : Int))).set 7 (.int .u32 (y.h : Int))))
          have HBF := Lib.hid ((((((((hbw.setCell (show w.heap.size ≤ (⟨b4, 0, none⟩ : Addr).block by show w.heap.size ≤ b4; omega) (.int .u32 (y.a : Int))).setCell (show w.heap.size ≤ (⟨b4, 1, none⟩ : Addr).block by show w.heap.size ≤ b4; omega) (.int .u32 (y.b : Int))).setCell (show w.heap.size ≤ (⟨b4, 2, none⟩ : Addr).block by show w.heap.size ≤ b4; omega) (.int .u32 (y.c : Int))).setCell (show w.heap.size ≤ (⟨b4, 3, none⟩ : Addr).block by show w.heap.size ≤ b4; omega) (.int .u32 (y.d : Int))).setCell (show w.heap.size ≤ (⟨b4, 4, none⟩ : Addr).block by show w.heap.size ≤ b4; omega) (.int .u32 (y.e : Int))).setCell (show w.heap.size ≤ (⟨b4, 5, none⟩ : Addr).block by show w.heap.size ≤ b4; omega) (.int .u32 (y.f : Int))).setCell (show w.heap.size ≤ (⟨b4, 6, none⟩ : Addr).block by show w.heap.size ≤ b4; omega) (.int .u32 (y.g : Int))).setCell (show w.heap.size ≤ (⟨b4, 7, none⟩ : Addr).block by show w.heap.size ≤ b4; omega) (.int .u32 (y.h : Int)))
          clear hk8 hlt hal hr1 hr4 hr6 hbw
          go_wp2_with fail
          exact bodyPost_ret (v := .agg (wv y.list).toArray) (results_row rfl _ _ rfl Tryd.under93' Tryd.size93 HP.out) rfl ⟨by rw [HFE.out], HBF.out⟩
end Go.Proofs.YtdolonkeanlaoaaDoor
