/- Ids: 32 bytes in an array; the walk of the reference's Hex. -/
import Derived.Test.YtplbcncbljcfmaaDoorShaA
import Derived.Laws.Rows
namespace Go.Proofs.YtplbcncbljcfmaaDoor
open Go.RowKit

def digits16 : List UInt8 := [48, 49, 50, 51, 52, 53, 54, 55, 56, 57, 97, 98, 99, 100, 101, 102]
def digit (n : Nat) : UInt8 := digits16.getD n 0
def hexL (l : List UInt8) : List UInt8 := l.flatMap fun c => [digit (c.toNat / 16), digit (c.toNat % 16)]
theorem cell_row {w : World} {b : Nat} {cs : Array Value} {t : TypeId} {fr : Nat × Nat} (h : w.heap[b]? = some (.cells cs t fr)) (j : Nat) (u : Value) (hj : cs[j]? = some u) : w.cell? ((⟨b, 0, none⟩ : Addr).add j) = some u := by
  by_cases h0 : j = 0
  · subst h0; rw [add_none, cell_of_row w b 0 cs t fr h, hj]
  · rw [show (⟨b, 0, none⟩ : Addr).add j = ⟨b, j, none⟩ by unfold Addr.add; rw [if_neg h0]; simp, cell_of_row w b j cs t fr h, hj]
theorem hexL_snoc (l : List UInt8) (k : Nat) (h : k < l.length) : hexL (l.take (k + 1)) = hexL (l.take k) ++ [digit (l[k].toNat / 16), digit (l[k].toNat % 16)] := by
  unfold hexL; rw [← List.take_append_getElem h, List.flatMap_append]; simp
theorem hexL_len (l : List UInt8) : (hexL l).length = 2 * l.length := by
  unfold hexL
  induction l with
  | nil => rfl
  | cons a t ih => rw [List.flatMap_cons, List.length_append, ih]; simp; omega
theorem bv_at {l : List UInt8} {k : Nat} (h : k < l.length) : (bv l).toArray[k]? = some (.int .u8 (l[k].toNat : Nat)) := by
  unfold bv; simp [List.getElem?_eq_getElem h]
theorem slice16 (w : World) (a : Nat) (ha : a < 16) : (Instr.slice 9 (.string ⟨#[48, 49, 50, 51, 52, 53, 54, 55, 56, 57, 97, 98, 99, 100, 101, 102]⟩) (some (.int .i64 (a : Int))) (some (.int .i64 ((a : Int) + 1))) none).run Tryd.prog w = .ok (.string ⟨#[digit a]⟩) w := by
  rw [run_slice_string _ _ _ _ _ _ _ (by kernel_rfl) (by omega) (by omega) (by show (a : Int) + 1 ≤ 16; omega)]
  congr 2
  have e1 : (a : Int).toNat = a := by omega
  have e2 : ((a : Int) + 1).toNat = a + 1 := by omega
  rw [e1, e2, show (#[48, 49, 50, 51, 52, 53, 54, 55, 56, 57, 97, 98, 99, 100, 101, 102] : Array UInt8) = digits16.toArray from rfl, extract_list]
  have key : ∀ a, a < 16 → (digits16.drop a).take (a + 1 - a) = [digit a] := by decide
  rw [key a ha]
theorem two_hex (l : List UInt8) (c d : UInt8) : (⟨l.toArray⟩ : ByteArray) ++ ((⟨#[c]⟩ : ByteArray) ++ ⟨#[d]⟩) = ⟨(l ++ [c, d]).toArray⟩ := by
  apply ByteArray.ext
  simp
set_option maxHeartbeats 1000000 in
theorem rhex_any (l : List UInt8) (w : World) (hl : l.length = 32) : Calls Tryd.prog 21 #[.agg (bv l).toArray] w fun e w' => e = .returned (.string ⟨(hexL l).toArray⟩) ∧ Below w.heap.size w w' := by
  have HL := Lib.hid hl
  clear hl
  go_enter Tryd.func21, Tryd.ntmps21
  go_wp2_with fail
  have HC : Hid (∀ k (h : k < l.length), (w.alloc (Obj.cells (bv l).toArray 25)).cell? ⟨w.heap.size, k, none⟩ = some (.int .u8 (l[k].toNat : Nat))) := Lib.hid fun k h => (cell_of_row _ _ _ _ _ _ (new_five w _ _)).trans (bv_at h)
  have HB : Hid (Below w.heap.size w (w.alloc (Obj.cells (bv l).toArray 25))) := Lib.hid ((Below.refl _ _).alloc (Nat.le_refl _) _)
  generalize w.alloc (Obj.cells (bv l).toArray 25) = w1 at *
  go_loopw [3, 4] (fun s i wr => ∃ k n : Nat, k ≤ 32 ∧ i = .int .i64 k ∧ s = .string ⟨(hexL (l.take k)).toArray⟩ ∧ wr = w1.drewN n) (fun _ i _ => 32 - (intOf i).toNat)
  case atStart => exact ⟨0, 0, Nat.zero_le _, rfl, rfl, rfl⟩
  case round =>
    obtain ⟨k, n, hk, rfl, rfl, rfl⟩ := hrel
    by_cases hlt : k < 32
    · have hlk : k < l.length := by rw [HL.out]; exact hlt
      have HS := Lib.hid (hexL_snoc l k hlk)
      have hc := HC.out k hlk
      have hx : l[k].toNat < 256 := l[k].toNat_lt
      generalize l[k].toNat = x at *
      clear hlk
      go_wp2_with fail
      go_quiet (fail)
      have e1 : (x : Int) / 16 = ((x / 16 : Nat) : Int) := by omega
      have e2 : (x : Int) % 16 = ((x % 16 : Nat) : Int) := by omega
      have ha : x / 16 < 16 := by omega
      have hb : x % 16 < 16 := by omega
      rw [e1, e2]
      generalize x / 16 = a at *
      generalize x % 16 = b at *
      clear e1 e2 hx hc
      have wa : IntKind.i64.wrap ((a : Int) + 1) = ((a + 1 : Nat) : Int) := by rw [IntKind.wrap_i64]; omega
      have wb : IntKind.i64.wrap ((b : Int) + 1) = ((b + 1 : Nat) : Int) := by rw [IntKind.wrap_i64]; omega
      have sa := fun w => slice16 w a ha
      have sb := fun w => slice16 w b hb
      clear ha hb
      have HC2 := Lib.hid (two_hex (hexL (l.take k)) (digit a) (digit b))
      have hS : (⟨(hexL (l.take k)).toArray⟩ : ByteArray).size ≤ 64 := by
        show (hexL (l.take k)).toArray.size ≤ 64
        simp [hexL_len]; omega
      generalize hexL (l.take k) = L at *
      generalize (⟨L.toArray⟩ : ByteArray) = S at *
      go_wp2_with fail
      go_quiet (fail)
      go_wp2_with fail
      go_roundw
      case rel => exact ⟨k + 1, _, by omega, by go_num, congrArg Value.string (HC2.out.trans (by rw [HS.out])), rfl⟩
      case measure => simp [intOf]; omega
    · have hkn : k = 32 := by omega
      subst hkn
      go_wp2_with fail
      go_ret
      exact ⟨by rw [List.take_of_length_le (by rw [HL.out]; exact Nat.le_refl _)]; rfl, HB.out.trans (below_drewN _ _ _)⟩
end Go.Proofs.YtplbcncbljcfmaaDoor
