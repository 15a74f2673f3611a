/- Ids: 32 bytes in an array; the walk of the reference's Hex. -/
import Derived.Test.YtdolonkeanlaoaaShaA
import Derived.Laws.Rows
namespace Go.Proofs.Ytdolonkeanlaoaa
open Go.RowKit

def digits16 : List UInt8 := [48, 49, 50, 51, 52, 53, 54, 55, 56, 57, 97, 98, 99, 100, 101, 102]
def digit (n : Nat) : UInt8 := digits16.getD n 0
def hexL (l : List UInt8) : List UInt8 := l.flatMap fun c => [digit (c.toNat / 16), digit (c.toNat % 16)]
theorem cell_row {w : World} {b : Nat} {cs : Array Value} {t : TypeId} {fr : Nat × Nat} (h : w.heap[b]? = some (.cells cs t fr)) (j : Nat) (u : Value) (hj : cs[j]? = some u) : w.cell? ((⟨b, 0, none⟩ : Addr).add j) = some u := by
  by_cases h0 : j = 0
  · subst h0; rw [add_none, cell_of_row w b 0 cs t fr h, hj]
  · rw [show (⟨b, 0, none⟩ : Addr).add j = ⟨b, j, none⟩ by unfold Addr.add; rw [if_neg h0]; simp, cell_of_row w b j cs t fr h, hj]
theorem hexL_snoc (l : List UInt8) (k : Nat) (h : k < l.length) : hexL (l.take (k + 1)) = hexL (l.take k) ++ [digit (l[k].toNat / 16), digit (l[k].toNat % 16)] := by
  unfold hexL; rw [← List.take_append_getElem h, List.flatMap_append]; simp
theorem hexL_len (l : List UInt8) : (hexL l).length = 2 * l.length := by
  unfold hexL
  induction l with
  | nil => rfl
  | cons a t ih => rw [List.flatMap_cons, List.length_append, ih]; simp; omega
theorem bv_at {l : List UInt8} {k : Nat} (h : k < l.length) : (bv l).toArray[k]? = some (.int .u8 (l[k].toNat : Nat)) := by
  unfold bv; simp [List.getElem?_eq_getElem h]
theorem slice16 (w : World) (a : Nat) (ha : a < 16) : (Instr.slice 9 (.string ⟨#[48, 49, 50, 51, 52, 53, 54, 55, 56, 57, 97, 98, 99, 100, 101, 102]⟩) (some (.int .i64 (a : Int))) (some (.int .i64 ((a : Int) + 1))) none).run Try.prog w = .ok (.string ⟨#[digit a]⟩) w := by
  rw [run_slice_string _ _ _ _ _ _ _ (by kernel_rfl) (by omega) (by omega) (by show (a : Int) + 1 ≤ 16; omega)]
  congr 2
  have e1 : (a : Int).toNat = a := by omega
  have e2 : ((a : Int) + 1).toNat = a + 1 := by omega
  rw [e1, e2, show (#[48, 49, 50, 51, 52, 53, 54, 55, 56, 57, 97, 98, 99, 100, 101, 102] : Array UInt8) = digits16.toArray from rfl, extract_list]
  have key : ∀ a, a < 16 → (digits16.drop a).take (a + 1 - a) = [digit a] := by decide
  rw [key a ha]
theorem two_hex (l : List UInt8) (c d : UInt8) : (⟨l.toArray⟩ : ByteArray) ++ ((⟨#[c]⟩ : ByteArray) ++ ⟨#[d]⟩) = ⟨(l ++ [c, d]).toArray⟩ := by
  apply ByteArray.ext
  simp
end Go.Proofs.Ytdolonkeanlaoaa
