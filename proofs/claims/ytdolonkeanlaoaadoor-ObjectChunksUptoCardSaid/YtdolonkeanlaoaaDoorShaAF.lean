/- Numbers of 32 bits turned and moved: the walks of the reference's turn and drop; ids as bytes; the walk of the reference's Hex. Ids: 32 bytes in an array; the walk of the reference's Hex. Ids in memory: loads and stores of 32 bytes at once; the walk of the reference's Parse. Lists of ids in memory; the walk of the reference's Short. Rows of numbers of 32 bits; the walks of the reference's start and parts; the sum of a block as a function on numbers. The sum as a function on bytes and numbers, as the document defines it. -/
import Derived.Test.YtdolonkeanlaoaaDoorBase
import Derived.Deep.QuietTactic
import Derived.BigQuiet
import Derived.Laws.Rows
import Derived.Deep.MidRow
import Derived.Laws.Tables
import Derived.Laws.CopyRow
import Derived.Laws.CopyOwn
import Derived.Laws.ResultCell
import Derived.Laws.Bits64
namespace Go.Proofs.YtdolonkeanlaoaaDoor
open Go.RowKit

def two32 : Nat := 4294967296
def rotN (x n : Nat) : Nat := x / 2 ^ n + x % 2 ^ n * (two32 / 2 ^ n)
theorem pow31 {n : Nat} (h : n ≤ 31) : 1 ≤ 2 ^ n ∧ 2 ^ n ≤ 2147483648 := by
  refine ⟨Nat.two_pow_pos _, ?_⟩
  have := Nat.pow_le_pow_right (n := 2) (by omega) h
  simpa using this
theorem rotN_lt {x n : Nat} (hx : x < two32) (hn : n ≤ 31) : rotN x n < two32 := by
  have h : n = 0 ∨ n = 1 ∨ n = 2 ∨ n = 3 ∨ n = 4 ∨ n = 5 ∨ n = 6 ∨ n = 7 ∨ n = 8 ∨ n = 9 ∨ n = 10 ∨ n = 11 ∨ n = 12 ∨ n = 13 ∨ n = 14 ∨ n = 15 ∨ n = 16 ∨ n = 17 ∨ n = 18 ∨ n = 19 ∨ n = 20 ∨ n = 21 ∨ n = 22 ∨ n = 23 ∨ n = 24 ∨ n = 25 ∨ n = 26 ∨ n = 27 ∨ n = 28 ∨ n = 29 ∨ n = 30 ∨ n = 31 := by omega
  unfold rotN two32 at *
  rcases h with rfl | rfl | rfl | rfl | rfl | rfl | rfl | rfl | rfl | rfl | rfl | rfl | rfl | rfl | rfl | rfl | rfl | rfl | rfl | rfl | rfl | rfl | rfl | rfl | rfl | rfl | rfl | rfl | rfl | rfl | rfl | rfl <;>
    (simp only [Nat.reducePow, Nat.reduceDiv]; omega)
theorem halve32 (z k : Nat) : z / 2 ^ k / 2 = z / 2 ^ (k + 1) := by rw [Nat.div_div_eq_div_mul, Nat.pow_succ]
set_option maxHeartbeats 400000 in
theorem drop_any (z n : Nat) (w : World) (hz : z < two32) (hn : n ≤ 64) : Calls Tryd.prog 29 #[.int .u64 z, .int .i64 n] w fun e w' => e = .returned (.int .u64 ((z / 2 ^ n : Nat) : Int)) ∧ w = w' := by
  have HZ := Lib.hid hz
  clear hz
  go_enter Tryd.func29, Tryd.ntmps29
  go_wp2_with fail
  go_loop [0, 5] (fun y i => ∃ k : Nat, k ≤ n ∧ i = .int .i64 k ∧ y = .int .u64 ((z / 2 ^ k : Nat) : Int)) (fun _ i => n - (intOf i).toNat)
  case atStart => exact ⟨0, Nat.zero_le _, rfl, by simp⟩
  case round =>
    obtain ⟨k, hk, rfl, rfl⟩ := hrel
    by_cases hlt : k < n
    · have HS := Lib.hid (halve32 z k)
      have hy : z / 2 ^ k < 4294967296 := Nat.lt_of_le_of_lt (Nat.div_le_self _ _) HZ.out
      generalize z / 2 ^ k = y at *
      go_wp2_with fail
      go_round
      case rel => exact ⟨k + 1, by omega, by go_num, congrArg (Value.int .u64) (by rw [← HS.out]; omega)⟩
      case measure => simp [intOf]; omega
    · have hkn : k = n := by omega
      subst hkn
      go_wp2_with fail
      go_ret
      exact ⟨rfl, rfl⟩
set_option maxHeartbeats 1000000 in
theorem turn_any (x n : Nat) (w : World) (hx : x < two32) (hn : n ≤ 31) : Calls Tryd.prog 28 #[.int .u64 x, .int .i64 n] w fun e w' => e = .returned (.int .u64 ((rotN x n : Nat) : Int)) ∧ ∃ d, w' = w.drewN d := by
  have HX := Lib.hid hx
  have HRL := Lib.hid (rotN_lt hx hn)
  have HRD : Hid (rotN x n = x / 2 ^ n + x % 2 ^ n * (two32 / 2 ^ n)) := Lib.hid rfl
  clear hx
  go_enter Tryd.func28, Tryd.ntmps28
  go_wp2_with fail
  go_loop [5, 6] (fun y i => ∃ k : Nat, k ≤ n ∧ i = .int .i64 k ∧ y = .int .u64 ((2 ^ k : Nat) : Int)) (fun _ i => n - (intOf i).toNat)
  case atStart => exact ⟨0, Nat.zero_le _, rfl, rfl⟩
  case round =>
    obtain ⟨k, hk, rfl, rfl⟩ := hrel
    by_cases hlt : k < n
    · have HP := Lib.hid (show 2 ^ (k + 1) = 2 ^ k * 2 from Nat.pow_succ ..)
      have hp := (pow31 (n := k) (by omega)).2
      generalize 2 ^ k = p at *
      go_wp2_with fail
      go_round
      case rel => exact ⟨k + 1, by omega, by go_num, congrArg (Value.int .u64) (by rw [HP.out]; omega)⟩
      case measure => simp [intOf]; omega
    · have hkn : k = n := by omega
      subst hkn
      obtain ⟨hp1, hp2⟩ := pow31 hn
      have hxl : x < 4294967296 := HX.out
      have hrl : rotN x k < 4294967296 := HRL.out
      have hpr0 : x % 2 ^ k * (two32 / 2 ^ k) ≤ rotN x k := by rw [HRD.out]; exact Nat.le_add_left ..
      have hr := HRD.out
      generalize 2 ^ k = p at *
      have hp0 : ((p : Int) == 0) = false := by rw [beq_eq_false_iff_ne]; omega
      have e1 : (x : Int) / (p : Int) = ((x / p : Nat) : Int) := by rw [Int.natCast_ediv]
      have e2 : (x : Int) % (p : Int) = ((x % p : Nat) : Int) := by rw [Int.natCast_emod]
      have e3 : (4294967296 : Int) / (p : Int) = ((two32 / p : Nat) : Int) := by rw [Int.natCast_ediv]; rfl
      have hd1 : x / p ≤ x := Nat.div_le_self _ _
      have hd2 : x % p ≤ x := Nat.mod_le x p
      have hd3 : two32 / p ≤ 4294967296 := Nat.div_le_self _ _
      have e4 : ((x % p : Nat) : Int) * ((two32 / p : Nat) : Int) = ((x % p * (two32 / p) : Nat) : Int) := by push_cast; rfl
      have hpr : x % p * (two32 / p) < 4294967296 := Nat.lt_of_le_of_lt hpr0 hrl
      generalize x % p * (two32 / p) = m at *
      generalize two32 / p = g at *
      generalize x / p = q at *
      generalize x % p = r at *
      have w1 : IntKind.u64.wrap ((x : Int) / (p : Int)) = (q : Int) := by rw [e1, IntKind.wrap_u64]; omega
      have w2 : IntKind.u64.wrap ((x : Int) % (p : Int)) = (r : Int) := by rw [e2, IntKind.wrap_u64]; omega
      have w3 : IntKind.u64.wrap ((4294967296 : Int) / (p : Int)) = (g : Int) := by rw [e3, IntKind.wrap_u64]; omega
      have HE1 := Lib.hid e1
      have HE2 := Lib.hid e2
      have HE3 := Lib.hid e3
      have HR := Lib.hid hr
      go_wp2_with fail
      go_quiet (fail)
      go_wp2_with fail
      go_ret
      exact ⟨by rw [HR.out]; rfl, _, rfl⟩
end Go.Proofs.YtdolonkeanlaoaaDoor
namespace Go.Proofs.YtdolonkeanlaoaaDoor
open Go.RowKit

def digits16 : List UInt8 := [48, 49, 50, 51, 52, 53, 54, 55, 56, 57, 97, 98, 99, 100, 101, 102]
def digit (n : Nat) : UInt8 := digits16.getD n 0
def hexL (l : List UInt8) : List UInt8 := l.flatMap fun c => [digit (c.toNat / 16), digit (c.toNat % 16)]
theorem cell_row {w : World} {b : Nat} {cs : Array Value} {t : TypeId} {fr : Nat × Nat} (h : w.heap[b]? = some (.cells cs t fr)) (j : Nat) (u : Value) (hj : cs[j]? = some u) : w.cell? ((⟨b, 0, none⟩ : Addr).add j) = some u := by
  by_cases h0 : j = 0
  · subst h0; rw [add_none, cell_of_row w b 0 cs t fr h, hj]
  · rw [show (⟨b, 0, none⟩ : Addr).add j = ⟨b, j, none⟩ by unfold Addr.add; rw [if_neg h0]; simp, cell_of_row w b j cs t fr h, hj]
theorem hexL_snoc (l : List UInt8) (k : Nat) (h : k < l.length) : hexL (l.take (k + 1)) = hexL (l.take k) ++ [digit (l[k].toNat / 16), digit (l[k].toNat % 16)] := by
  unfold hexL; rw [← List.take_append_getElem h, List.flatMap_append]; simp
theorem hexL_len (l : List UInt8) : (hexL l).length = 2 * l.length := by
  unfold hexL
  induction l with
  | nil => rfl
  | cons a t ih => rw [List.flatMap_cons, List.length_append, ih]; simp; omega
theorem bv_at {l : List UInt8} {k : Nat} (h : k < l.length) : (bv l).toArray[k]? = some (.int .u8 (l[k].toNat : Nat)) := by
  unfold bv; simp [List.getElem?_eq_getElem h]
theorem slice16 (w : World) (a : Nat) (ha : a < 16) : (Instr.slice 9 (.string ⟨#[48, 49, 50, 51, 52, 53, 54, 55, 56, 57, 97, 98, 99, 100, 101, 102]⟩) (some (.int .i64 (a : Int))) (some (.int .i64 ((a : Int) + 1))) none).run Tryd.prog w = .ok (.string ⟨#[digit a]⟩) w := by
  rw [run_slice_string _ _ _ _ _ _ _ (by kernel_rfl) (by omega) (by omega) (by show (a : Int) + 1 ≤ 16; omega)]
  congr 2
  have e1 : (a : Int).toNat = a := by omega
  have e2 : ((a : Int) + 1).toNat = a + 1 := by omega
  rw [e1, e2, show (#[48, 49, 50, 51, 52, 53, 54, 55, 56, 57, 97, 98, 99, 100, 101, 102] : Array UInt8) = digits16.toArray from rfl, extract_list]
  have key : ∀ a, a < 16 → (digits16.drop a).take (a + 1 - a) = [digit a] := by decide
  rw [key a ha]
theorem two_hex (l : List UInt8) (c d : UInt8) : (⟨l.toArray⟩ : ByteArray) ++ ((⟨#[c]⟩ : ByteArray) ++ ⟨#[d]⟩) = ⟨(l ++ [c, d]).toArray⟩ := by
  apply ByteArray.ext
  simp
end Go.Proofs.YtdolonkeanlaoaaDoor
namespace Go.Proofs.YtdolonkeanlaoaaDoor
open Go.RowKit

theorem Tryd.under33' : Tryd.prog.underlying 33 = some (.array 32 5) := by kernel_rfl
theorem Tryd.size33 : (Tryd.prog.info? 33).map (·.size) = some 32 := by kernel_rfl
/-- Block b holds the id l. -/
structure IDAt (w : World) (b : Nat) (l : List UInt8) : Prop where
  len : l.length = 32
  blk : w.heap[b]? = some (.cells (bv l).toArray 33 (0, 0))
theorem bv_size {l : List UInt8} (h : l.length = 32) : (bv l).toArray.size = 32 := by simp [bv_len, h]
theorem bv_all (l : List UInt8) : (bv l).toArray.all (·.oneCell') = true := by
  rw [Array.all_eq_true_iff_forall_mem]
  intro u hu
  exact bv_one l u (by simpa using hu)
theorem IDAt.load {w : World} {b : Nat} {l : List UInt8} (h : IDAt w b l) : (Instr.loadAt 33 (.pointer (some ⟨b, 0, none⟩))).run Tryd.prog w = .ok (.agg (bv l).toArray) w := by
  have := run_loadVar_row (P := Tryd.prog) w b 33 33 (bv l).toArray (0, 0) _ h.blk Tryd.under33' rfl (by rw [bv_size h.len]; exact Tryd.size33)
  simp only [Instr.loadAt, Instr.sureAddr, Sem.run_bind, Sem.run_pure, Result.andThen_ok, this]
theorem IDAt.store {w : World} {b : Nat} {old l : List UInt8} (h : IDAt w b old) (hl : l.length = 32) : (Instr.storeAt 33 (.pointer (some ⟨b, 0, none⟩)) (.agg (bv l).toArray)).run Tryd.prog w = .ok () (w.setRow b (bv l).toArray) := by
  have := run_storeVar_row (P := Tryd.prog) w b 33 33 (bv old).toArray (bv l).toArray h.blk (by rw [bv_size hl]; exact Tryd.size33) (by rw [bv_size h.len, bv_size hl]) (bv_all l)
  simp only [Instr.storeAt, Instr.sureAddr, Sem.run_bind, Sem.run_pure, Result.andThen_ok, this]
theorem IDAt.put {w : World} {b : Nat} {old l : List UInt8} (h : IDAt w b old) (hl : l.length = 32) : IDAt (w.setRow b (bv l).toArray) b l := ⟨hl, setRow_heap w b _ _ _ _ h.blk⟩
theorem IDAt.cell {w : World} {b : Nat} {l : List UInt8} (h : IDAt w b l) (k : Nat) (hk : k < l.length) : w.cell? ⟨b, k, none⟩ = some (.int .u8 (l[k].toNat : Nat)) := (cell_of_row _ _ _ _ _ _ h.blk).trans (bv_at hk)
theorem IDAt.kept {w w' : World} {b : Nat} {l : List UInt8} (h : IDAt w b l) (hk : w'.heap[b]? = w.heap[b]?) : IDAt w' b l := ⟨h.len, hk.trans h.blk⟩
theorem IDAt.free {w : World} {b : Nat} {l : List UInt8} (h : IDAt w b l) (k : Nat) : w.frozen? ⟨b, k, none⟩ = false := by unfold World.frozen?; rw [h.blk]; simp
theorem IDAt.set {w : World} {b : Nat} {l : List UInt8} (h : IDAt w b l) (k n : Nat) (hn : n < 256) : IDAt (w.setCell ⟨b, k, none⟩ (.int .u8 (n : Int))) b (l.set k (UInt8.ofNat n)) := by
  refine ⟨by rw [List.length_set]; exact h.len, ?_⟩
  rw [heap_setCell_same w b k _ _ _ h.blk, ← bv_set l k n hn]
  simp
def zeros : List UInt8 := List.replicate 32 0
theorem zeros_lit : (bv zeros).toArray = #[.int .u8 0, .int .u8 0, .int .u8 0, .int .u8 0, .int .u8 0, .int .u8 0, .int .u8 0, .int .u8 0, .int .u8 0, .int .u8 0, .int .u8 0, .int .u8 0, .int .u8 0, .int .u8 0, .int .u8 0, .int .u8 0, .int .u8 0, .int .u8 0, .int .u8 0, .int .u8 0, .int .u8 0, .int .u8 0, .int .u8 0, .int .u8 0, .int .u8 0, .int .u8 0, .int .u8 0, .int .u8 0, .int .u8 0, .int .u8 0, .int .u8 0, .int .u8 0] := rfl
theorem IDAt.new (w : World) : IDAt (w.alloc (.cells (bv zeros).toArray 33)) w.heap.size zeros := ⟨rfl, new_five w _ _⟩
def n32 : Nat := 32
/-- As a walk leaves them, the size of an id shut. -/
theorem IDAt.cells {w : World} {b : Nat} {l : List UInt8} (h : IDAt w b l) : (loadCellsFrom ⟨b, 0, none⟩ 0 n32 #[]).run Tryd.prog w = .ok (bv l).toArray w := by
  have := run_loadCells_list (P := Tryd.prog) w ⟨b, 0, none⟩ (bv l) (fun j v hv => by
    rw [Addr.add_mid, cell_of_row w b _ _ _ _ h.blk]
    simpa using hv)
  have e : (bv l).length = n32 := by rw [bv_len, h.len]; rfl
  rw [e] at this
  simpa [loadCells] using this
theorem IDAt.write {w : World} {b : Nat} {old l : List UInt8} (h : IDAt w b old) (hl : l.length = 32) : (storeCells ⟨b, 0, none⟩ (bv l)).run Tryd.prog w = .ok () (w.setRow b (bv l).toArray) := by
  have := run_storeCells_from (P := Tryd.prog) b 33 (bv l) 0 (bv old).toArray w h.blk (by rw [bv_size h.len, bv_len, hl]) (bv_one l)
  simpa using this
theorem id_size (w : World) : (sizeOf 33).run Tryd.prog w = .ok n32 w := by rw [Tryd.sizeOf33]; rfl
theorem id_agg (w : World) : (isAgg 33).run Tryd.prog w = .ok true w := by rw [Tryd.isAgg33]
theorem id_zero (w : World) : (zeroValue 33).run Tryd.prog w = .ok (.agg (bv zeros).toArray) w := by rw [Tryd.zeroValue33]; rfl
theorem zeros_len : (bv zeros).length = n32 := rfl
attribute [local simp high] id_size id_zero
/-- The number of a digit's byte among the first k digits; -1: none. -/
def valAt (c : UInt8) : Nat → Int
  | 0 => -1
  | k + 1 => if (digit k).toNat = c.toNat then (k : Int) else valAt c k
theorem valAt_lt (c : UInt8) (k : Nat) : -1 ≤ valAt c k ∧ valAt c k < (k : Int) ∨ k = 0 ∧ valAt c k = -1 := by
  induction k with
  | zero => right; exact ⟨rfl, rfl⟩
  | succ k ih => left; unfold valAt; split <;> omega
def val (c : UInt8) : Int := valAt c 16
theorem val_lt (c : UInt8) : -1 ≤ val c ∧ val c < 16 := by
  have := valAt_lt c 16
  unfold val; omega
/-- The id behind i digits. -/
def outAt (s : List UInt8) : Nat → List UInt8
  | 0 => zeros
  | i + 1 => (outAt s i).set (i / 2) (UInt8.ofNat (((((outAt s i).getD (i / 2) 0).toNat : Int) * 16 + val (s.getD i 0)) % 256).toNat)
theorem outAt_len (s : List UInt8) (i : Nat) : (outAt s i).length = 32 := by
  induction i with
  | zero => rfl
  | succ i ih => unfold outAt; rw [List.length_set, ih]
/-- All of the first n bytes are digits. -/
def allDig (s : List UInt8) (n : Nat) : Prop := ∀ j, j < n → 0 ≤ val (s.getD j 0)
instance (s : List UInt8) (n : Nat) : Decidable (allDig s n) := inferInstanceAs (Decidable (∀ j, j < n → 0 ≤ val (s.getD j 0)))
def parseN (s : List UInt8) : List UInt8 × Nat := if s.length = 64 ∧ allDig s 64 then (outAt s 64, 0) else (zeros, 30)
theorem index16 (w : World) (q : Nat) (hq : q < 16) : (Instr.index 9 (.string ⟨#[48, 49, 50, 51, 52, 53, 54, 55, 56, 57, 97, 98, 99, 100, 101, 102]⟩) (.int .i64 (q : Int))).run Tryd.prog w = .ok (.int .u8 ((digit q).toNat : Nat)) w := by
  have h0 : (⟨#[48, 49, 50, 51, 52, 53, 54, 55, 56, 57, 97, 98, 99, 100, 101, 102]⟩ : ByteArray).size = 16 := rfl
  rw [run_index_string _ _ _ _ _ (by kernel_rfl), dif_pos (by rw [h0]; omega)]
  have key : ∀ q (h : q < 16), ((⟨#[48, 49, 50, 51, 52, 53, 54, 55, 56, 57, 97, 98, 99, 100, 101, 102]⟩ : ByteArray)[q]'h).toNat = (digit q).toNat := by decide
  have e : (q : Int).toNat = q := by omega
  simp only [e, key q hq]
theorem indexS (w : World) (s : List UInt8) (i : Nat) (hi : i < s.length) : (Instr.index 9 (.string ⟨s.toArray⟩) (.int .i64 (i : Int))).run Tryd.prog w = .ok (.int .u8 ((s.getD i 0).toNat : Nat)) w := by
  have hs := idx_lt hi
  rw [run_index_string _ _ _ _ _ (by kernel_rfl), dif_pos (by omega)]
  have e : (i : Int).toNat = i := by omega
  simp only [e, idx_eq s i hi]
  rw [show s.getD i 0 = s[i] by simp [List.getD, List.getElem?_eq_getElem hi]]
theorem results_id {fn : Func} {p u : Tmp} (h : fn.results = #[.cell p 33, .tmp u]) (tmps : Array Value) (w : World) {b : Nat} {l : List UInt8} {x : Value} (hp : tmps.getD p undef = .pointer (some ⟨b, 0, none⟩)) (hx : tmps.getD u undef = x) (hI : IDAt w b l) :
    (results fn tmps).run Tryd.prog w = .ok (.tuple #[.agg (bv l).toArray, x]) w := by
  have := run_loadVar_row (P := Tryd.prog) w b 33 33 (bv l).toArray (0, 0) _ hI.blk Tryd.under33' rfl (by rw [bv_size hI.len]; exact Tryd.size33)
  rw [results_cell_tmp h, hp, hx]
  simp [asAddr, this]
end Go.Proofs.YtdolonkeanlaoaaDoor
namespace Go.Proofs.YtdolonkeanlaoaaDoor
open Go.RowKit

attribute [local simp high] id_size id_zero
/-- A slice that holds the ids ts, in blocks of S. -/
def IDsC (S : Nat → Prop) (w : World) (v : Value) (ts : List (List UInt8)) : Prop :=
  ts = [] ∧ (∃ a c, v = .slice a 0 c) ∨ ∃ a cap, v = .slice (some a) ts.length cap ∧ S a.block ∧ ts.length ≤ cap ∧ ∀ i (h : i < ts.length), ts[i].length = 32 ∧ ∀ j (h2 : j < ts[i].length), w.cell? ((a.add (i * n32)).add j) = some (.int .u8 (ts[i][j].toNat : Nat))
theorem IDsC.shape {S : Nat → Prop} {w : World} {v : Value} {ts : List (List UInt8)} (h : IDsC S w v ts) : ∃ a cap, v = .slice a ts.length cap := by
  rcases h with ⟨rfl, a, c, rfl⟩ | ⟨a, c, rfl, _⟩
  · exact ⟨a, c, rfl⟩
  · exact ⟨some a, c, rfl⟩
theorem IDsC.kept {S S' : Nat → Prop} {w w' : World} {v : Value} {ts : List (List UInt8)} (h : IDsC S w v ts) (hk : ∀ k, S k → S' k ∧ w'.heap[k]? = w.heap[k]?) : IDsC S' w' v ts := by
  rcases h with h | ⟨a, c, h1, h2, h3, h4⟩
  · exact Or.inl h
  · refine Or.inr ⟨a, c, h1, (hk _ h2).1, h3, fun i hi => ⟨(h4 i hi).1, fun j hj => ?_⟩⟩
    rw [← (h4 i hi).2 j hj]
    unfold World.cell?
    rw [add_block, add_block, (hk _ h2).2]
theorem IDsC.cells {S : Nat → Prop} {w : World} {a : Addr} {cap : Nat} {ts : List (List UInt8)} (h : IDsC S w (.slice (some a) ts.length cap) ts) (j : Nat) (hj : j < ts.length) : (loadCellsFrom (a.add (j * n32)) 0 n32 #[]).run Tryd.prog w = .ok (bv (ts.getD j [])).toArray w := by
  have ej : ts.getD j [] = ts[j] := by simp [List.getD, List.getElem?_eq_getElem hj]
  rw [ej]
  rcases h with ⟨h0, _⟩ | ⟨a', c', h1, h2, h3, h4⟩
  · rw [h0] at hj; exact absurd hj (by simp)
  injection h1 with h1 _ h1c
  injection h1 with h1
  subst h1
  have := run_loadCells_list (P := Tryd.prog) w (a.add (j * n32)) (bv ts[j]) (fun i v hv => by
    have hi : i < ts[j].length := by
      have := (List.getElem?_eq_some_iff.1 hv).1
      rwa [bv_len] at this
    rw [(h4 j hj).2 i hi]
    have := bv_at hi
    rw [← hv, ← this]
    simp)
  have e : (bv ts[j]).length = n32 := by rw [bv_len, (h4 j hj).1]; rfl
  rw [e] at this
  simpa [loadCells] using this
theorem IDsC.len {S : Nat → Prop} {w : World} {v : Value} {ts : List (List UInt8)} (h : IDsC S w v ts) (j : Nat) (hj : j < ts.length) : (ts.getD j []).length = 32 := by
  have ej : ts.getD j [] = ts[j] := by simp [List.getD, List.getElem?_eq_getElem hj]
  rw [ej]
  rcases h with ⟨h0, _⟩ | ⟨a', c', h1, h2, h3, h4⟩
  · rw [h0] at hj; exact absurd hj (by simp)
  · exact (h4 j hj).1
def pfx (s t : List UInt8) : Nat → Nat → Nat
  | 0, k => k
  | f + 1, k => if (s.getD k 0).toNat = (t.getD k 0).toNat then pfx s t f (k + 1) else k
theorem pfx_le (s t : List UInt8) (f k : Nat) : pfx s t f k ≤ k + f := by
  induction f generalizing k with
  | zero => exact Nat.le_refl _
  | succ f ih =>
    unfold pfx
    split
    · have := ih (k + 1); omega
    · omega
def stepN (n c : Nat) : Nat := if c < 64 ∧ n < c + 1 then c + 1 else n
def shortAt (s : List UInt8) (ts : List (List UInt8)) : Nat → Nat
  | 0 => 4
  | i + 1 => stepN (shortAt s ts i) (pfx s (hexL (ts.getD i [])) 64 0)
theorem shortAt_le (s : List UInt8) (ts : List (List UInt8)) (i : Nat) : 4 ≤ shortAt s ts i ∧ shortAt s ts i ≤ 64 := by
  induction i with
  | zero => unfold shortAt; omega
  | succ i ih => unfold shortAt stepN; split <;> omega
end Go.Proofs.YtdolonkeanlaoaaDoor
namespace Go.Proofs.YtdolonkeanlaoaaDoor
open Go.RowKit

def uv (l : List Nat) : List Value := l.map fun c : Nat => Value.int .u64 (c : Int)
theorem uv_len (l : List Nat) : (uv l).length = l.length := by unfold uv; simp
theorem uv_at {l : List Nat} {k : Nat} (h : k < l.length) : (uv l).toArray[k]? = some (.int .u64 (l[k] : Nat)) := by
  unfold uv; simp [List.getElem?_eq_getElem h]
/-- Block b holds the numbers l. -/
structure WordsAt (w : World) (b : Nat) (l : List Nat) : Prop where
  blk : w.heap[b]? = some (.cells (uv l).toArray 50 (0, 0))
theorem WordsAt.cell {w : World} {b : Nat} {l : List Nat} (h : WordsAt w b l) (k : Nat) (hk : k < l.length) : w.cell? ⟨b, k, none⟩ = some (.int .u64 (l[k] : Nat)) := (cell_of_row _ _ _ _ _ _ h.blk).trans (uv_at hk)
theorem WordsAt.kept {w w' : World} {b : Nat} {l : List Nat} (h : WordsAt w b l) (hk : w'.heap[b]? = w.heap[b]?) : WordsAt w' b l := ⟨hk.trans h.blk⟩
theorem WordsAt.free {w : World} {b : Nat} {l : List Nat} (h : WordsAt w b l) (k : Nat) : w.frozen? ⟨b, k, none⟩ = false := by unfold World.frozen?; rw [h.blk]; simp
theorem uv_set (l : List Nat) (k n : Nat) : (uv l).set k (.int .u64 (n : Int)) = uv (l.set k n) := by
  unfold uv; rw [List.map_set]
theorem WordsAt.set {w : World} {b : Nat} {l : List Nat} (h : WordsAt w b l) (k n : Nat) : WordsAt (w.setCell ⟨b, k, none⟩ (.int .u64 (n : Int))) b (l.set k n) := by
  refine ⟨?_⟩
  rw [heap_setCell_same w b k _ _ _ h.blk, ← uv_set l k n]
  simp
def startL : List Nat := [1779033703, 3144134277, 1013904242, 2773480762, 1359893119, 2600822924, 528734635, 1541459225]
def partsL : List Nat := [
  1116352408, 1899447441, 3049323471, 3921009573, 961987163, 1508970993, 2453635748, 2870763221,
  3624381080, 310598401, 607225278, 1426881987, 1925078388, 2162078206, 2614888103, 3248222580,
  3835390401, 4022224774, 264347078, 604807628, 770255983, 1249150122, 1555081692, 1996064986,
  2554220882, 2821834349, 2952996808, 3210313671, 3336571891, 3584528711, 113926993, 338241895,
  666307205, 773529912, 1294757372, 1396182291, 1695183700, 1986661051, 2177026350, 2456956037,
  2730485921, 2820302411, 3259730800, 3345764771, 3516065817, 3600352804, 4094571909, 275423344,
  430227734, 506948616, 659060556, 883997877, 958139571, 1322822218, 1537002063, 1747873779,
  1955562222, 2024104815, 2227730452, 2361852424, 2428436474, 2756734187, 3204031479, 3329325298]
set_option maxHeartbeats 1000000 in
theorem rstart_any (w : World) : Calls Tryd.prog 27 #[] w fun e w' => e = .returned (.slice (some ⟨w.heap.size, 0, none⟩) 8 8) ∧ w' = w.alloc (.cells (uv startL).toArray 50) := by
  go_enter Tryd.func27, Tryd.ntmps27
  go_wp2_with fail
  go_ret
  exact ⟨rfl, rfl⟩
set_option maxHeartbeats 4000000 in
theorem rparts_any (w : World) : Calls Tryd.prog 26 #[] w fun e w' => e = .returned (.slice (some ⟨w.heap.size, 0, none⟩) 64 64) ∧ w' = w.alloc (.cells (uv partsL).toArray 50) := by
  go_enter Tryd.func26, Tryd.ntmps26
  go_wp2_with fail
  go_ret
  exact ⟨rfl, rfl⟩
end Go.Proofs.YtdolonkeanlaoaaDoor
namespace Go.Proofs.YtdolonkeanlaoaaDoor
open Go.RowKit

def sml0 (x : Nat) : Nat := (rotN x 7 ^^^ rotN x 18) ^^^ x / 2 ^ 3
def sml1 (x : Nat) : Nat := (rotN x 17 ^^^ rotN x 19) ^^^ x / 2 ^ 10
def big0 (x : Nat) : Nat := (rotN x 2 ^^^ rotN x 13) ^^^ rotN x 22
def big1 (x : Nat) : Nat := (rotN x 6 ^^^ rotN x 11) ^^^ rotN x 25
def chooseN (e f g : Nat) : Nat := (e &&& f) ^^^ ((4294967295 - e) &&& g)
def mostN (a b c : Nat) : Nat := ((a &&& b) ^^^ (a &&& c)) ^^^ (b &&& c)
/-- The word of four bytes at i. -/
def wordAt (b : List UInt8) (i : Nat) : Nat := (((b.getD i 0).toNat * 256 + (b.getD (i + 1) 0).toNat) * 256 + (b.getD (i + 2) 0).toNat) * 256 + (b.getD (i + 3) 0).toNat
/-- The first i words of the block that begins at byte o. -/
def schedL (b : List UInt8) (o : Nat) : Nat → List Nat
  | 0 => []
  | i + 1 =>
    let l := schedL b o i
    l ++ [if i < 16 then wordAt b (o + 4 * i) else (l.getD (i - 16) 0 + l.getD (i - 7) 0 + sml0 (l.getD (i - 15) 0) + sml1 (l.getD (i - 2) 0)) % two32]
structure Eight where
  a : Nat
  b : Nat
  c : Nat
  d : Nat
  e : Nat
  f : Nat
  g : Nat
  h : Nat
def Eight.list (v : Eight) : List Nat := [v.a, v.b, v.c, v.d, v.e, v.f, v.g, v.h]
def startE : Eight := ⟨1779033703, 3144134277, 1013904242, 2773480762, 1359893119, 2600822924, 528734635, 1541459225⟩
def roundN (v : Eight) (k w : Nat) : Eight :=
  let t := v.h + big1 v.e + chooseN v.e v.f v.g + k + w
  let u := big0 v.a + mostN v.a v.b v.c
  ⟨(t + u) % two32, v.a, v.b, v.c, (v.d + t) % two32, v.e, v.f, v.g⟩
/-- What stands behind i rounds. -/
def roundsN (ws : List Nat) (v : Eight) : Nat → Eight
  | 0 => v
  | i + 1 => roundN (roundsN ws v i) (partsL.getD i 0) (ws.getD i 0)
def addE (x y : Eight) : Eight := ⟨(x.a + y.a) % two32, (x.b + y.b) % two32, (x.c + y.c) % two32, (x.d + y.d) % two32, (x.e + y.e) % two32, (x.f + y.f) % two32, (x.g + y.g) % two32, (x.h + y.h) % two32⟩
def blockN (b : List UInt8) (o : Nat) (h : Eight) : Eight := addE h (roundsN (schedL b o 64) h 64)
/-- What stands behind n blocks. -/
def blocksN (b : List UInt8) : Nat → Eight
  | 0 => startE
  | n + 1 => blockN b (64 * n) (blocksN b n)
def fillN (n : Nat) : Nat := (119 - n % 64) % 64
def placesN (n : Nat) : List UInt8 := [UInt8.ofNat (n / 2 ^ 56 % 256), UInt8.ofNat (n / 2 ^ 48 % 256), UInt8.ofNat (n / 2 ^ 40 % 256), UInt8.ofNat (n / 2 ^ 32 % 256), UInt8.ofNat (n / 2 ^ 24 % 256), UInt8.ofNat (n / 2 ^ 16 % 256), UInt8.ofNat (n / 2 ^ 8 % 256), UInt8.ofNat (n % 256)]
def padL (s : List UInt8) : List UInt8 := s ++ [128] ++ List.replicate (fillN s.length) 0 ++ placesN (s.length * 8)
def outB (h : List Nat) (i : Nat) : UInt8 := UInt8.ofNat (h.getD (i / 4) 0 / 2 ^ (24 - 8 * (i % 4)) % 256)
def sumN (s : List UInt8) : List UInt8 := (List.range 32).map (outB (blocksN (padL s) ((padL s).length / 64)).list)
theorem sumN_len (s : List UInt8) : (sumN s).length = 32 := by unfold sumN; simp
theorem padL_len (s : List UInt8) : (padL s).length % 64 = 0 ∧ (padL s).length = s.length + 9 + fillN s.length := by
  unfold padL placesN fillN
  simp only [List.length_append, List.length_replicate, List.length_cons, List.length_nil]
  omega
theorem sml0_lt {x : Nat} (h : x < two32) : sml0 x < two32 := by
  have e : two32 = 2 ^ 32 := rfl
  have h1 := rotN_lt h (n := 7) (by omega)
  have h2 := rotN_lt h (n := 18) (by omega)
  have h3 : x / 2 ^ 3 < two32 := Nat.lt_of_le_of_lt (Nat.div_le_self _ _) h
  unfold sml0
  rw [e] at *
  exact Nat.xor_lt_two_pow (Nat.xor_lt_two_pow h1 h2) h3
theorem sml1_lt {x : Nat} (h : x < two32) : sml1 x < two32 := by
  have e : two32 = 2 ^ 32 := rfl
  have h1 := rotN_lt h (n := 17) (by omega)
  have h2 := rotN_lt h (n := 19) (by omega)
  have h3 : x / 2 ^ 10 < two32 := Nat.lt_of_le_of_lt (Nat.div_le_self _ _) h
  unfold sml1
  rw [e] at *
  exact Nat.xor_lt_two_pow (Nat.xor_lt_two_pow h1 h2) h3
theorem big0_lt {x : Nat} (h : x < two32) : big0 x < two32 := by
  have e : two32 = 2 ^ 32 := rfl
  have h1 := rotN_lt h (n := 2) (by omega)
  have h2 := rotN_lt h (n := 13) (by omega)
  have h3 := rotN_lt h (n := 22) (by omega)
  unfold big0
  rw [e] at *
  exact Nat.xor_lt_two_pow (Nat.xor_lt_two_pow h1 h2) h3
theorem big1_lt {x : Nat} (h : x < two32) : big1 x < two32 := by
  have e : two32 = 2 ^ 32 := rfl
  have h1 := rotN_lt h (n := 6) (by omega)
  have h2 := rotN_lt h (n := 11) (by omega)
  have h3 := rotN_lt h (n := 25) (by omega)
  unfold big1
  rw [e] at *
  exact Nat.xor_lt_two_pow (Nat.xor_lt_two_pow h1 h2) h3
theorem chooseN_lt {e f g : Nat} (he : e < two32) : chooseN e f g < two32 := by
  have h : two32 = 2 ^ 32 := rfl
  unfold chooseN
  rw [h] at *
  exact Nat.xor_lt_two_pow (Nat.lt_of_le_of_lt Nat.and_le_left he) (Nat.lt_of_le_of_lt Nat.and_le_left (by omega))
theorem mostN_lt {a b c : Nat} (ha : a < two32) (hb : b < two32) : mostN a b c < two32 := by
  have h : two32 = 2 ^ 32 := rfl
  unfold mostN
  rw [h] at *
  exact Nat.xor_lt_two_pow (Nat.xor_lt_two_pow (Nat.lt_of_le_of_lt Nat.and_le_left ha) (Nat.lt_of_le_of_lt Nat.and_le_left ha)) (Nat.lt_of_le_of_lt Nat.and_le_left hb)
set_option maxRecDepth 100000 in
theorem sum_abc : hexL (sumN [97, 98, 99]) = [98, 97, 55, 56, 49, 54, 98, 102, 56, 102, 48, 49, 99, 102, 101, 97, 52, 49, 52, 49, 52, 48, 100, 101, 53, 100, 97, 101, 50, 50, 50, 51, 98, 48, 48, 51, 54, 49, 97, 51, 57, 54, 49, 55, 55, 97, 57, 99, 98, 52, 49, 48, 102, 102, 54, 49, 102, 50, 48, 48, 49, 53, 97, 100] := by kernel_rfl
end Go.Proofs.YtdolonkeanlaoaaDoor
