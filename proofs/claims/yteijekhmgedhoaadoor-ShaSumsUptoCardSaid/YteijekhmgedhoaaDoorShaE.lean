/- Rows of numbers of 32 bits; the walks of the reference's start and parts; the sum of a block as a function on numbers. -/
import Derived.Test.YteijekhmgedhoaaDoorShaD
namespace Go.Proofs.YteijekhmgedhoaaDoor
open Go.RowKit

def uv (l : List Nat) : List Value := l.map fun c : Nat => Value.int .u64 (c : Int)
theorem uv_len (l : List Nat) : (uv l).length = l.length := by unfold uv; simp
theorem uv_at {l : List Nat} {k : Nat} (h : k < l.length) : (uv l).toArray[k]? = some (.int .u64 (l[k] : Nat)) := by
  unfold uv; simp [List.getElem?_eq_getElem h]
/-- Block b holds the numbers l. -/
structure WordsAt (w : World) (b : Nat) (l : List Nat) : Prop where
  blk : w.heap[b]? = some (.cells (uv l).toArray 60 (0, 0))
theorem WordsAt.cell {w : World} {b : Nat} {l : List Nat} (h : WordsAt w b l) (k : Nat) (hk : k < l.length) : w.cell? ⟨b, k, none⟩ = some (.int .u64 (l[k] : Nat)) := (cell_of_row _ _ _ _ _ _ h.blk).trans (uv_at hk)
theorem WordsAt.kept {w w' : World} {b : Nat} {l : List Nat} (h : WordsAt w b l) (hk : w'.heap[b]? = w.heap[b]?) : WordsAt w' b l := ⟨hk.trans h.blk⟩
theorem WordsAt.free {w : World} {b : Nat} {l : List Nat} (h : WordsAt w b l) (k : Nat) : w.frozen? ⟨b, k, none⟩ = false := by unfold World.frozen?; rw [h.blk]; simp
theorem uv_set (l : List Nat) (k n : Nat) : (uv l).set k (.int .u64 (n : Int)) = uv (l.set k n) := by
  unfold uv; rw [List.map_set]
theorem WordsAt.set {w : World} {b : Nat} {l : List Nat} (h : WordsAt w b l) (k n : Nat) : WordsAt (w.setCell ⟨b, k, none⟩ (.int .u64 (n : Int))) b (l.set k n) := by
  refine ⟨?_⟩
  rw [heap_setCell_same w b k _ _ _ h.blk, ← uv_set l k n]
  simp
def startL : List Nat := [1779033703, 3144134277, 1013904242, 2773480762, 1359893119, 2600822924, 528734635, 1541459225]
def partsL : List Nat := [
  1116352408, 1899447441, 3049323471, 3921009573, 961987163, 1508970993, 2453635748, 2870763221,
  3624381080, 310598401, 607225278, 1426881987, 1925078388, 2162078206, 2614888103, 3248222580,
  3835390401, 4022224774, 264347078, 604807628, 770255983, 1249150122, 1555081692, 1996064986,
  2554220882, 2821834349, 2952996808, 3210313671, 3336571891, 3584528711, 113926993, 338241895,
  666307205, 773529912, 1294757372, 1396182291, 1695183700, 1986661051, 2177026350, 2456956037,
  2730485921, 2820302411, 3259730800, 3345764771, 3516065817, 3600352804, 4094571909, 275423344,
  430227734, 506948616, 659060556, 883997877, 958139571, 1322822218, 1537002063, 1747873779,
  1955562222, 2024104815, 2227730452, 2361852424, 2428436474, 2756734187, 3204031479, 3329325298]
set_option maxHeartbeats 1000000 in
theorem rstart_any (w : World) : Calls Tryd.prog 35 #[] w fun e w' => e = .returned (.slice (some ⟨w.heap.size, 0, none⟩) 8 8) ∧ w' = w.alloc (.cells (uv startL).toArray 60) := by
  go_enter Tryd.func35, Tryd.ntmps35
  go_wp2_with fail
  go_ret
  exact ⟨rfl, rfl⟩
set_option maxHeartbeats 4000000 in
theorem rparts_any (w : World) : Calls Tryd.prog 34 #[] w fun e w' => e = .returned (.slice (some ⟨w.heap.size, 0, none⟩) 64 64) ∧ w' = w.alloc (.cells (uv partsL).toArray 60) := by
  go_enter Tryd.func34, Tryd.ntmps34
  go_wp2_with fail
  go_ret
  exact ⟨rfl, rfl⟩
end Go.Proofs.YteijekhmgedhoaaDoor
