/- Contracts: Parse. -/
import Derived.Test.YtgppadnbfggkcaaDoorF
import Derived.OneCell
namespace Go.Proofs.YtgppadnbfggkcaaDoor
open Go.RowKit Go.Shelf Go.Sort Go.Lib

def parseBits (s : List UInt8) : Nat := (readB s).getD 0
def parseCode (s : List UInt8) : Int := if (readB s).isSome = true then 0 else 10
theorem run_storeF (w : World) (a : Addr) (b : Nat) (m : Mode) : (store a (.float .f64 b) m).run Tryd.prog w = stored Tryd.prog w a (.float .f64 b) m := run_store Tryd.prog w a _ m rfl
theorem two_cells (w : World) (v0 v1 : Value) (t0 t1 : TypeId) :
    ((w.alloc (.cells #[v0] t0)).alloc (.cells #[v1] t1)).cell? ⟨w.heap.size, 0, none⟩ = some v0 ∧ ((w.alloc (.cells #[v0] t0)).alloc (.cells #[v1] t1)).cell? ⟨w.heap.size + 1, 0, none⟩ = some v1 ∧
    ((w.alloc (.cells #[v0] t0)).alloc (.cells #[v1] t1)).frozen? ⟨w.heap.size, 0, none⟩ = false ∧ ((w.alloc (.cells #[v0] t0)).alloc (.cells #[v1] t1)).frozen? ⟨w.heap.size + 1, 0, none⟩ = false := by
  have h0 : ((w.alloc (.cells #[v0] t0)).alloc (.cells #[v1] t1)).heap[w.heap.size]? = some (.cells #[v0] t0 (0, 0)) := by
    show ((w.heap.push _).push _)[w.heap.size]? = _
    rw [Array.getElem?_push, if_neg (by simp), Array.getElem?_push, if_pos rfl]
  have h1 : ((w.alloc (.cells #[v0] t0)).alloc (.cells #[v1] t1)).heap[w.heap.size + 1]? = some (.cells #[v1] t1 (0, 0)) := by
    show ((w.heap.push _).push _)[w.heap.size + 1]? = _
    rw [Array.getElem?_push, if_pos (by simp)]
  exact ⟨cell_of_one h0, cell_of_one h1, free_of_one h0, free_of_one h1⟩
theorem put_two {w : World} {p q : Addr} (hpq : p.block ≠ q.block) {x y : Value} (hp : w.cell? p = some x) (hq : w.cell? q = some y) (u v : Value) :
    ((w.setCell p u).setCell q v).cell? p = some u ∧ ((w.setCell p u).setCell q v).cell? q = some v := by
  refine ⟨?_, ?_⟩
  · rw [World.cell?_setCell_other _ _ _ _ (by intro h; exact hpq (by rw [h]))]; exact World.cell?_setCell_same _ _ _ hp
  · refine World.cell?_setCell_same (u := y) _ _ _ ?_
    rw [World.cell?_setCell_other _ _ _ _ (by intro h; exact hpq (by rw [h]))]; exact hq
set_option maxRecDepth 100000 in
set_option maxHeartbeats 400000 in
theorem parse_bad (s : ByteArray) (hs : s.size ≤ 281474976710656) (h : readB s.data.toList = none) (w : World) (hE : Env w) :
    Calls Tryd.prog 17 #[.string s] w fun e w' => e = .returned (.tuple #[.float .f64 0, .int .i64 10]) ∧ Below w.heap.size w w' := by
  have hmf : ∀ (fn : Fn) (first cap : Array Value) (w : World), (Instr.makeFunc fn first cap).run Tryd.prog w = .ok (.func fn first cap) w := fun _ _ _ _ => rfl
  have hst := run_storeF
  have hB2 : Below w.heap.size w ((w.alloc (.cells #[.float .f64 0] 22)).alloc (.cells #[.int .i64 0] 29)) := ((Below.refl _ _).alloc (Nat.le_refl _) _).alloc (by simp) _
  have hr := read_any s hs _ (hE.below hE.big hB2)
  rw [h] at hr
  have HR := Lib.hid hr
  have HB := Lib.hid hB2
  clear hr hB2 h hE hs
  go_enter_defers Tryd.func17, Tryd.ntmps17
  go_wp2_with fail
  refine HR.out.mono ?_
  rintro e w1 ⟨rfl, hb⟩
  go_wp2
  obtain ⟨t0, t1, z0, z1⟩ := two_cells w (.float .f64 0) (.int .i64 0) 22 29
  have hc0 : w1.cell? ⟨w.heap.size, 0, none⟩ = some (.float .f64 0) := by rw [hb.cell (p := ⟨w.heap.size, 0, none⟩) (by simp; omega)]; exact t0
  have hz0 : w1.frozen? ⟨w.heap.size, 0, none⟩ = false := by rw [hb.frozen (p := ⟨w.heap.size, 0, none⟩) (by simp; omega)]; exact z0
  have hc1 : w1.cell? ⟨w.heap.size + 1, 0, none⟩ = some (.int .i64 0) := by rw [hb.cell (p := ⟨w.heap.size + 1, 0, none⟩) (by simp)]; exact t1
  have hz1 : w1.frozen? ⟨w.heap.size + 1, 0, none⟩ = false := by rw [hb.frozen (p := ⟨w.heap.size + 1, 0, none⟩) (by simp)]; exact z1
  obtain ⟨c0, c1⟩ := put_two (w := w1) (p := ⟨w.heap.size, 0, none⟩) (q := ⟨w.heap.size + 1, 0, none⟩) (by simp) hc0 hc1 (.float .f64 0) (.int .i64 10)
  refine leaves_cons (f := 28) (args := #[.pointer (some ⟨w.heap.size, 0, none⟩), .pointer (some ⟨w.heap.size + 1, 0, none⟩)]) (by simp) (by simp [go_sem]) ?_
  refine (catch_panicking ⟨w.heap.size, 0, none⟩ ⟨w.heap.size + 1, 0, none⟩ (.float .f64 0) (.int .i64 0) [] _ hc0 hz0 ?_ ?_).mono ?_
  · rw [World.cell?_setCell_other _ _ _ _ (by simp)]; exact hc1
  · simpa [go_sem] using hz1
  rintro e u' w'' ⟨rfl, rfl, rfl⟩
  have hb3 := HB.out.trans (hb.mono HB.out.size)
  have hb4 : Below w.heap.size w ((w1.setCell ⟨w.heap.size, 0, none⟩ (.float .f64 0)).setCell ⟨w.heap.size + 1, 0, none⟩ (.int .i64 10)) := (hb3.setCell (Nat.le_refl _) _).setCell (Nat.le_succ _) _
  generalize (w1.setCell ⟨w.heap.size, 0, none⟩ (.float .f64 0)).setCell ⟨w.heap.size + 1, 0, none⟩ (.int .i64 10) = w3 at *
  simp [Leaves, settle, results, Tryd.results17, go_sem, c0, c1]
  exact hb4
set_option maxRecDepth 100000 in
set_option maxHeartbeats 400000 in
theorem parse_fit (s : ByteArray) (hs : s.size ≤ 281474976710656) (b : Nat) (h : readB s.data.toList = some b) (w : World) (hE : Env w) :
    Calls Tryd.prog 17 #[.string s] w fun e w' => e = .returned (.tuple #[.float .f64 b, .int .i64 0]) ∧ Below w.heap.size w w' := by
  have hmf : ∀ (fn : Fn) (first cap : Array Value) (w : World), (Instr.makeFunc fn first cap).run Tryd.prog w = .ok (.func fn first cap) w := fun _ _ _ _ => rfl
  have hst := run_storeF
  have hB2 : Below w.heap.size w ((w.alloc (.cells #[.float .f64 0] 22)).alloc (.cells #[.int .i64 0] 29)) := ((Below.refl _ _).alloc (Nat.le_refl _) _).alloc (by simp) _
  have hr := read_any s hs _ (hE.below hE.big hB2)
  rw [h] at hr
  have HR := Lib.hid hr
  have HB := Lib.hid hB2
  clear hr hB2 h hE hs
  go_enter_defers Tryd.func17, Tryd.ntmps17
  go_wp2_with fail
  refine HR.out.mono ?_
  rintro e w1 ⟨rfl, hb⟩
  obtain ⟨t0, t1, z0, z1⟩ := two_cells w (.float .f64 0) (.int .i64 0) 22 29
  have hc0 : w1.cell? ⟨w.heap.size, 0, none⟩ = some (.float .f64 0) := by rw [hb.cell (p := ⟨w.heap.size, 0, none⟩) (by simp; omega)]; exact t0
  have hz0 : w1.frozen? ⟨w.heap.size, 0, none⟩ = false := by rw [hb.frozen (p := ⟨w.heap.size, 0, none⟩) (by simp; omega)]; exact z0
  have hc1 : w1.cell? ⟨w.heap.size + 1, 0, none⟩ = some (.int .i64 0) := by rw [hb.cell (p := ⟨w.heap.size + 1, 0, none⟩) (by simp)]; exact t1
  have hz1 : w1.frozen? ⟨w.heap.size + 1, 0, none⟩ = false := by rw [hb.frozen (p := ⟨w.heap.size + 1, 0, none⟩) (by simp)]; exact z1
  obtain ⟨c0, c1⟩ := put_two (w := w1) (p := ⟨w.heap.size, 0, none⟩) (q := ⟨w.heap.size + 1, 0, none⟩) (by simp) hc0 hc1 (.float .f64 b) (.int .i64 0)
  have hb3 := HB.out.trans (hb.mono HB.out.size)
  have hb4 : Below w.heap.size w ((w1.setCell ⟨w.heap.size, 0, none⟩ (.float .f64 b)).setCell ⟨w.heap.size + 1, 0, none⟩ (.int .i64 0)) := (hb3.setCell (Nat.le_refl _) _).setCell (Nat.le_succ _) _
  have C0 := Lib.hid c0
  have C1 := Lib.hid c1
  have B4 := Lib.hid hb4
  clear c0 c1 hb4 hb3 t0 t1 z0 z1 hb
  go_wp2
  refine leaves_cons (f := 28) (args := #[.pointer (some ⟨w.heap.size, 0, none⟩), .pointer (some ⟨w.heap.size + 1, 0, none⟩)]) (by simp) (by simp [go_sem]) ?_
  refine (catch_idle ⟨w.heap.size, 0, none⟩ ⟨w.heap.size + 1, 0, none⟩ _).mono ?_
  rintro e u' w'' ⟨rfl, rfl, rfl⟩
  have c0 := C0.out
  have c1 := C1.out
  have b4 := B4.out
  generalize (w1.setCell ⟨w.heap.size, 0, none⟩ (.float .f64 b)).setCell ⟨w.heap.size + 1, 0, none⟩ (.int .i64 0) = w3 at *
  simp [Leaves, settle, results, Tryd.results17, go_sem, c0, c1]
  exact b4
theorem parse_any (s : ByteArray) (hs : s.size ≤ 281474976710656) (w : World) (hE : Env w) :
    Calls Tryd.prog 17 #[.string s] w fun e w' => e = .returned (.tuple #[.float .f64 (parseBits s.data.toList), .int .i64 (parseCode s.data.toList)]) ∧ Below w.heap.size w w' := by
  unfold parseBits parseCode
  cases h : readB s.data.toList with
  | none => exact parse_bad s hs h w hE
  | some b => exact parse_fit s hs b h w hE
end Go.Proofs.YtgppadnbfggkcaaDoor
