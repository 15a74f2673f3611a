/- A frame's head told by its first twelve bytes (mathematics, for the reference's Scan). -/
import Derived.Test.YtgknihcpmpfocaaDoorPkAD
namespace Go.Proofs.YtgknihcpmpfocaaDoor
theorem frameL_take (s : List UInt8) : (frameL s).take 12 = headL s := by
  unfold frameL
  exact List.take_left' (headL_len s)
theorem take12 (b : List UInt8) : b.take 12 = b.take 4 ++ (b.drop 4).take 8 := by rw [← List.take_add]
theorem head_iff {b : List UInt8} (hb : 12 + num4 b ≤ b.length) : headL ((b.drop 12).take (num4 b)) = b.take 12 ↔ (sumN ((b.drop 12).take (num4 b))).take 8 = (b.drop 4).take 8 := by
  have hl : ((b.drop 12).take (num4 b)).length = num4 b := by rw [List.length_take, List.length_drop]; omega
  unfold headL
  rw [hl, be4_num4 (by omega), take12]
  exact ⟨fun h => List.append_cancel_left h, fun h => by rw [h]⟩
/-- What the reference's Scan asks of the bytes behind a place. -/
theorem first_ref {b : List UInt8} (h12 : 12 ≤ b.length) (hn : num4 b ≤ 524288) (hb : 12 + num4 b ≤ b.length) :
    firstN b = if (frameL ((b.drop 12).take (num4 b))).take 12 = b.take 12 then some (num4 b) else none := by
  unfold firstN
  rw [if_neg (by omega), if_neg (by omega), frameL_take]
  by_cases h : (sumN ((b.drop 12).take (num4 b))).take 8 = (b.drop 4).take 8
  · rw [if_pos h, if_pos ((head_iff hb).2 h)]
  · rw [if_neg h, if_neg (fun h2 => h ((head_iff hb).1 h2))]
theorem first_short' {b : List UInt8} (h12 : b.length < 12) : firstN b = none := by unfold firstN; rw [if_pos h12]
theorem first_great {b : List UInt8} (h12 : 12 ≤ b.length) (h : 524288 < num4 b ∨ b.length < 12 + num4 b) : firstN b = none := by
  unfold firstN
  rw [if_neg (by omega), if_pos (by omega)]
/-- The number in four bytes of a text, reckoned one byte after another. -/
def partG (b : List UInt8) (e k : Nat) : Nat := ((b.drop e).take k).foldl (fun a c => a * 256 + c.toNat) 0
theorem partG_zero (b : List UInt8) (e : Nat) : partG b e 0 = 0 := rfl
theorem partG_succ {b : List UInt8} {e k : Nat} (h : e + k < b.length) : partG b e (k + 1) = partG b e k * 256 + (b[e + k]).toNat := by
  unfold partG
  have hk : k < (b.drop e).length := by rw [List.length_drop]; omega
  rw [List.take_succ_eq_append_getElem hk, List.foldl_append, List.getElem_drop]
  rfl
theorem partG_four (b : List UInt8) (e : Nat) : partG b e 4 = num4 (b.drop e) := rfl
end Go.Proofs.YtgknihcpmpfocaaDoor
