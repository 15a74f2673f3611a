/- Are two snapshots alike at a path? -/
import Derived.Test.YtjlpdoppnhcjoaaDoorJnC
import Derived.Test.YtjlpdoppnhcjoaaDoorStAll
import Derived.BigQuiet
namespace Go.Proofs.YtjlpdoppnhcjoaaDoor
open Go.RowKit Go.Lib
theorem n135_ne : (n135 = 0) = False := by simp [n135]
theorem n138_ne : (n138 = 0) = False := by simp [n138]
theorem n32_ne : (n32 = 0) = False := by simp [n32]
theorem n34_ne : (n34 = 0) = False := by simp [n34]
attribute [local simp high] files_size outcome_size id_size n135_ne n138_ne n32_ne n34_ne
def idF (f : Nat → UInt8) (k : Nat) : Value := .int .u8 ((f k).toNat : Int)
theorem FAt.ids {w : World} {b : Nat} {o : OutN} {st : Nat → Nat} (h : FAt w b o st) {i : Nat} (hi : i < 3) : (loadCellsFrom ⟨b, 39 + i * n32, none⟩ 0 n32 #[]).run Tryd.prog w = .ok (rowL n32 (idF (o.ids i))).toArray w := by
  refine load_row w b (39 + i * n32) n32 (idF (o.ids i)) (fun j hj => ?_)
  have hj2 : j < 32 := hj
  have e : n32 = 32 := rfl
  rw [h.cell (by rw [e]; unfold n138; omega)]
  unfold filF outF idF
  rw [e, if_pos (by omega), if_neg (by omega), if_neg (by omega), if_neg (by omega), if_neg (by omega), if_neg (by omega), if_neg (by omega), show (39 + i * 32 + j - 39) / 32 = i by omega, show (39 + i * 32 + j - 39) % 32 = j by omega]
/-- An id's bytes. -/
def idL (f : Nat → UInt8) : List UInt8 := (List.range 32).map f
theorem idL_len (f : Nat → UInt8) : (idL f).length = 32 := by unfold idL; simp
theorem idL_row (f : Nat → UInt8) : rowL n32 (idF f) = bv (idL f) := by
  unfold rowL bv idL idF n32
  rw [List.map_map]; rfl
def alikeB (o : OutN) (a b : Nat) : Bool := (o.has a == o.has b) && decide (idL (o.ids a) = idL (o.ids b))
set_option maxRecDepth 100000 in
set_option maxHeartbeats 4000000 in
theorem alike_files (fb : Nat) (o : OutN) (st : Nat → Nat) (w : World) (h : FAt w fb o st) (a b : Nat) (ha : a < 3) (hb : b < 3) :
    Calls Tryd.prog 40 #[.pointer (some ⟨fb, 0, none⟩), .int .i64 (a : Int), .int .i64 (b : Int)] w fun e w' => e = .returned (.bool (alikeB o a b)) ∧ ∃ n, w' = w.drewN n := by
  have d0 := h.has ha
  have d1 := h.has hb
  have l0 := fun n => FAt.ids (w := w.drewN n) (h.kept rfl) ha
  have l1 := fun n => FAt.ids (w := w.drewN n) (h.kept rfl) hb
  rw [idL_row] at l0 l1
  have he := fun W => id_eql W (idL_len (o.ids a)) (idL_len (o.ids b))
  have a1 : (a : Int) < 3 := by omega
  have b1 : (b : Int) < 3 := by omega
  unfold alikeB
  generalize o.has a = x at *
  generalize o.has b = y at *
  generalize decide (idL (o.ids a) = idL (o.ids b)) = r at *
  generalize bv (idL (o.ids a)) = p at *
  generalize bv (idL (o.ids b)) = q at *
  clear h
  cases x <;> cases y
  all_goals
    go_enter Tryd.func40, Tryd.ntmps40
    go_upto_region 1 with fail
    go_quiet (fail)
    go_wp2_with fail
    go_ret
    exact ⟨by simp, _, rfl⟩
end Go.Proofs.YtjlpdoppnhcjoaaDoor
