/- Ids in memory: loads and stores of 32 bytes at once; the walk of the reference's Parse. -/
import Derived.Test.YtdolonkeanlaoaaShaB
import Derived.Deep.MidRow
import Derived.Laws.Tables
import Derived.Laws.CopyRow
import Derived.Laws.CopyOwn
import Derived.Laws.ResultCell
namespace Go.Proofs.Ytdolonkeanlaoaa
open Go.RowKit

theorem Try.under27' : Try.prog.underlying 27 = some (.array 32 5) := by kernel_rfl
theorem Try.size27 : (Try.prog.info? 27).map (·.size) = some 32 := by kernel_rfl
/-- Block b holds the id l. -/
structure IDAt (w : World) (b : Nat) (l : List UInt8) : Prop where
  len : l.length = 32
  blk : w.heap[b]? = some (.cells (bv l).toArray 27 (0, 0))
theorem bv_size {l : List UInt8} (h : l.length = 32) : (bv l).toArray.size = 32 := by simp [bv_len, h]
theorem bv_all (l : List UInt8) : (bv l).toArray.all (·.oneCell') = true := by
  rw [Array.all_eq_true_iff_forall_mem]
  intro u hu
  exact bv_one l u (by simpa using hu)
theorem IDAt.load {w : World} {b : Nat} {l : List UInt8} (h : IDAt w b l) : (Instr.loadAt 27 (.pointer (some ⟨b, 0, none⟩))).run Try.prog w = .ok (.agg (bv l).toArray) w := by
  have := run_loadVar_row (P := Try.prog) w b 27 27 (bv l).toArray (0, 0) _ h.blk Try.under27' rfl (by rw [bv_size h.len]; exact Try.size27)
  simp only [Instr.loadAt, Instr.sureAddr, Sem.run_bind, Sem.run_pure, Result.andThen_ok, this]
theorem IDAt.store {w : World} {b : Nat} {old l : List UInt8} (h : IDAt w b old) (hl : l.length = 32) : (Instr.storeAt 27 (.pointer (some ⟨b, 0, none⟩)) (.agg (bv l).toArray)).run Try.prog w = .ok () (w.setRow b (bv l).toArray) := by
  have := run_storeVar_row (P := Try.prog) w b 27 27 (bv old).toArray (bv l).toArray h.blk (by rw [bv_size hl]; exact Try.size27) (by rw [bv_size h.len, bv_size hl]) (bv_all l)
  simp only [Instr.storeAt, Instr.sureAddr, Sem.run_bind, Sem.run_pure, Result.andThen_ok, this]
theorem IDAt.put {w : World} {b : Nat} {old l : List UInt8} (h : IDAt w b old) (hl : l.length = 32) : IDAt (w.setRow b (bv l).toArray) b l := ⟨hl, setRow_heap w b _ _ _ _ h.blk⟩
theorem IDAt.cell {w : World} {b : Nat} {l : List UInt8} (h : IDAt w b l) (k : Nat) (hk : k < l.length) : w.cell? ⟨b, k, none⟩ = some (.int .u8 (l[k].toNat : Nat)) := (cell_of_row _ _ _ _ _ _ h.blk).trans (bv_at hk)
theorem IDAt.kept {w w' : World} {b : Nat} {l : List UInt8} (h : IDAt w b l) (hk : w'.heap[b]? = w.heap[b]?) : IDAt w' b l := ⟨h.len, hk.trans h.blk⟩
theorem IDAt.free {w : World} {b : Nat} {l : List UInt8} (h : IDAt w b l) (k : Nat) : w.frozen? ⟨b, k, none⟩ = false := by unfold World.frozen?; rw [h.blk]; simp
theorem IDAt.set {w : World} {b : Nat} {l : List UInt8} (h : IDAt w b l) (k n : Nat) (hn : n < 256) : IDAt (w.setCell ⟨b, k, none⟩ (.int .u8 (n : Int))) b (l.set k (UInt8.ofNat n)) := by
  refine ⟨by rw [List.length_set]; exact h.len, ?_⟩
  rw [heap_setCell_same w b k _ _ _ h.blk, ← bv_set l k n hn]
  simp
def zeros : List UInt8 := List.replicate 32 0
theorem zeros_lit : (bv zeros).toArray = #[.int .u8 0, .int .u8 0, .int .u8 0, .int .u8 0, .int .u8 0, .int .u8 0, .int .u8 0, .int .u8 0, .int .u8 0, .int .u8 0, .int .u8 0, .int .u8 0, .int .u8 0, .int .u8 0, .int .u8 0, .int .u8 0, .int .u8 0, .int .u8 0, .int .u8 0, .int .u8 0, .int .u8 0, .int .u8 0, .int .u8 0, .int .u8 0, .int .u8 0, .int .u8 0, .int .u8 0, .int .u8 0, .int .u8 0, .int .u8 0, .int .u8 0, .int .u8 0] := rfl
theorem IDAt.new (w : World) : IDAt (w.alloc (.cells (bv zeros).toArray 27)) w.heap.size zeros := ⟨rfl, new_five w _ _⟩
def n32 : Nat := 32
/-- As a walk leaves them, the size of an id shut. -/
theorem IDAt.cells {w : World} {b : Nat} {l : List UInt8} (h : IDAt w b l) : (loadCellsFrom ⟨b, 0, none⟩ 0 n32 #[]).run Try.prog w = .ok (bv l).toArray w := by
  have := run_loadCells_list (P := Try.prog) w ⟨b, 0, none⟩ (bv l) (fun j v hv => by
    rw [Addr.add_mid, cell_of_row w b _ _ _ _ h.blk]
    simpa using hv)
  have e : (bv l).length = n32 := by rw [bv_len, h.len]; rfl
  rw [e] at this
  simpa [loadCells] using this
theorem IDAt.write {w : World} {b : Nat} {old l : List UInt8} (h : IDAt w b old) (hl : l.length = 32) : (storeCells ⟨b, 0, none⟩ (bv l)).run Try.prog w = .ok () (w.setRow b (bv l).toArray) := by
  have := run_storeCells_from (P := Try.prog) b 27 (bv l) 0 (bv old).toArray w h.blk (by rw [bv_size h.len, bv_len, hl]) (bv_one l)
  simpa using this
theorem id_size (w : World) : (sizeOf 27).run Try.prog w = .ok n32 w := by rw [Try.sizeOf27]; rfl
theorem id_agg (w : World) : (isAgg 27).run Try.prog w = .ok true w := by rw [Try.isAgg27]
theorem id_zero (w : World) : (zeroValue 27).run Try.prog w = .ok (.agg (bv zeros).toArray) w := by rw [Try.zeroValue27]; rfl
theorem zeros_len : (bv zeros).length = n32 := rfl
attribute [local simp high] id_size id_zero
/-- The number of a digit's byte among the first k digits; -1: none. -/
def valAt (c : UInt8) : Nat → Int
  | 0 => -1
  | k + 1 => if (digit k).toNat = c.toNat then (k : Int) else valAt c k
theorem valAt_lt (c : UInt8) (k : Nat) : -1 ≤ valAt c k ∧ valAt c k < (k : Int) ∨ k = 0 ∧ valAt c k = -1 := by
  induction k with
  | zero => right; exact ⟨rfl, rfl⟩
  | succ k ih => left; unfold valAt; split <;> omega
def val (c : UInt8) : Int := valAt c 16
theorem val_lt (c : UInt8) : -1 ≤ val c ∧ val c < 16 := by
  have := valAt_lt c 16
  unfold val; omega
/-- The id behind i digits. -/
def outAt (s : List UInt8) : Nat → List UInt8
  | 0 => zeros
  | i + 1 => (outAt s i).set (i / 2) (UInt8.ofNat (((((outAt s i).getD (i / 2) 0).toNat : Int) * 16 + val (s.getD i 0)) % 256).toNat)
theorem outAt_len (s : List UInt8) (i : Nat) : (outAt s i).length = 32 := by
  induction i with
  | zero => rfl
  | succ i ih => unfold outAt; rw [List.length_set, ih]
/-- All of the first n bytes are digits. -/
def allDig (s : List UInt8) (n : Nat) : Prop := ∀ j, j < n → 0 ≤ val (s.getD j 0)
instance (s : List UInt8) (n : Nat) : Decidable (allDig s n) := inferInstanceAs (Decidable (∀ j, j < n → 0 ≤ val (s.getD j 0)))
def parseN (s : List UInt8) : List UInt8 × Nat := if s.length = 64 ∧ allDig s 64 then (outAt s 64, 0) else (zeros, 30)
theorem index16 (w : World) (q : Nat) (hq : q < 16) : (Instr.index 9 (.string ⟨#[48, 49, 50, 51, 52, 53, 54, 55, 56, 57, 97, 98, 99, 100, 101, 102]⟩) (.int .i64 (q : Int))).run Try.prog w = .ok (.int .u8 ((digit q).toNat : Nat)) w := by
  have h0 : (⟨#[48, 49, 50, 51, 52, 53, 54, 55, 56, 57, 97, 98, 99, 100, 101, 102]⟩ : ByteArray).size = 16 := rfl
  rw [run_index_string _ _ _ _ _ (by kernel_rfl), dif_pos (by rw [h0]; omega)]
  have key : ∀ q (h : q < 16), ((⟨#[48, 49, 50, 51, 52, 53, 54, 55, 56, 57, 97, 98, 99, 100, 101, 102]⟩ : ByteArray)[q]'h).toNat = (digit q).toNat := by decide
  have e : (q : Int).toNat = q := by omega
  simp only [e, key q hq]
theorem indexS (w : World) (s : List UInt8) (i : Nat) (hi : i < s.length) : (Instr.index 9 (.string ⟨s.toArray⟩) (.int .i64 (i : Int))).run Try.prog w = .ok (.int .u8 ((s.getD i 0).toNat : Nat)) w := by
  have hs := idx_lt hi
  rw [run_index_string _ _ _ _ _ (by kernel_rfl), dif_pos (by omega)]
  have e : (i : Int).toNat = i := by omega
  simp only [e, idx_eq s i hi]
  rw [show s.getD i 0 = s[i] by simp [List.getD, List.getElem?_eq_getElem hi]]
theorem results_id {fn : Func} {p u : Tmp} (h : fn.results = #[.cell p 27, .tmp u]) (tmps : Array Value) (w : World) {b : Nat} {l : List UInt8} {x : Value} (hp : tmps.getD p undef = .pointer (some ⟨b, 0, none⟩)) (hx : tmps.getD u undef = x) (hI : IDAt w b l) :
    (results fn tmps).run Try.prog w = .ok (.tuple #[.agg (bv l).toArray, x]) w := by
  have := run_loadVar_row (P := Try.prog) w b 27 27 (bv l).toArray (0, 0) _ hI.blk Try.under27' rfl (by rw [bv_size hI.len]; exact Try.size27)
  rw [results_cell_tmp h, hp, hx]
  simp [asAddr, this]
end Go.Proofs.Ytdolonkeanlaoaa
