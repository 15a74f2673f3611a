/- Contracts: Encode. -/
import Derived.Test.YtgppadnbfggkcaaF
import Derived.OneCell
namespace Go.Proofs.Ytgppadnbfggkcaa
open Go.RowKit

theorem Reads.mono {B B' : Nat} {w : World} (hB : B ≤ B') : ∀ (n : Nat) (v : Value) (x : Val), Reads B w n v x → Reads B' w n v x
  | 0, v, .mk .., h => h
  | n + 1, v, .mk .., h => by
    obtain ⟨vb, vl, h1, h2, h3, h4, h5, h6, h7⟩ := h
    refine ⟨vb, vl, h1, h2, h3, h4, h5, ?_, ?_⟩
    · rcases h6 with h6 | ⟨a, cap, e1, e2, e3⟩
      · exact Or.inl h6
      · exact Or.inr ⟨a, cap, e1, e2.imp_right (fun h => by omega), e3⟩
    · rcases h7 with h7 | ⟨g, o, cap, e1, e2, e3⟩
      · exact Or.inl h7
      · refine Or.inr ⟨g, o, cap, e1, by omega, fun j x hj => ?_⟩
        obtain ⟨c0, c1, c2, c3, c4, d0, d1, d2, d3, d4, hr⟩ := e3 j x hj
        exact ⟨c0, c1, c2, c3, c4, d0, d1, d2, d3, d4, Reads.mono hB n _ _ hr⟩
theorem Own.mono {w : World} {B B' : Nat} {v : Value} {l : List UInt8} (h : Own w B v l) (hB : B' ≤ B) : Own w B' v l := by
  refine ⟨h.1, ?_⟩
  rcases h.2 with h2 | ⟨g, cap, cur, h1, h2, h3⟩
  · exact Or.inl h2
  · exact Or.inr ⟨g, cap, cur, h1, by omega, h3⟩
/-- What Encode answers. -/
def encR (x : Val) : Except Int (List UInt8) := encV 16 [] x
def EncAnswers (w : World) (r : Except Int (List UInt8)) (e : Ending) (w' : World) : Prop :=
  match r with
  | .ok o => ∃ v', e = .returned (.tuple #[v', .int .i64 0]) ∧ Own w' w.heap.size v' o ∧ Below w.heap.size w w'
  | .error c => e = .returned (.tuple #[.slice none 0 0, .int .i64 c]) ∧ Below w.heap.size w w'
theorem three_cells (w : World) (cs : Array Value) (v0 v1 : Value) (t t0 t1 : TypeId) :
    (((w.alloc (.cells cs t)).alloc (.cells #[v0] t0)).alloc (.cells #[v1] t1)).cell? ⟨w.heap.size + 1, 0, none⟩ = some v0 ∧ (((w.alloc (.cells cs t)).alloc (.cells #[v0] t0)).alloc (.cells #[v1] t1)).cell? ⟨w.heap.size + 1 + 1, 0, none⟩ = some v1 ∧
    (((w.alloc (.cells cs t)).alloc (.cells #[v0] t0)).alloc (.cells #[v1] t1)).frozen? ⟨w.heap.size + 1, 0, none⟩ = false ∧ (((w.alloc (.cells cs t)).alloc (.cells #[v0] t0)).alloc (.cells #[v1] t1)).frozen? ⟨w.heap.size + 1 + 1, 0, none⟩ = false := by
  have h0 : (((w.alloc (.cells cs t)).alloc (.cells #[v0] t0)).alloc (.cells #[v1] t1)).heap[w.heap.size + 1]? = some (.cells #[v0] t0 (0, 0)) := by
    show (((w.heap.push _).push _).push _)[w.heap.size + 1]? = _
    rw [Array.getElem?_push, if_neg (by simp), Array.getElem?_push, if_pos (by simp)]
  have h1 : (((w.alloc (.cells cs t)).alloc (.cells #[v0] t0)).alloc (.cells #[v1] t1)).heap[w.heap.size + 1 + 1]? = some (.cells #[v1] t1 (0, 0)) := by
    show (((w.heap.push _).push _).push _)[w.heap.size + 1 + 1]? = _
    rw [Array.getElem?_push, if_pos (by simp)]
  exact ⟨cell_of_one h0, cell_of_one h1, free_of_one h0, free_of_one h1⟩
theorem put_two {w : World} {p q : Addr} (hpq : p.block ≠ q.block) {x y : Value} (hp : w.cell? p = some x) (hq : w.cell? q = some y) (u v : Value) :
    ((w.setCell p u).setCell q v).cell? p = some u ∧ ((w.setCell p u).setCell q v).cell? q = some v := by
  refine ⟨?_, ?_⟩
  · rw [World.cell?_setCell_other _ _ _ _ (by intro h; exact hpq (by rw [h]))]; exact World.cell?_setCell_same _ _ _ hp
  · refine World.cell?_setCell_same (u := y) _ _ _ ?_
    rw [World.cell?_setCell_other _ _ _ _ (by intro h; exact hpq (by rw [h]))]; exact hq
theorem Own.setCell {w : World} {B : Nat} {v : Value} {l : List UInt8} (h : Own w B v l) {p : Addr} (hp : p.block < B) (u : Value) : Own (w.setCell p u) B v l := by
  refine ⟨h.1, ?_⟩
  rcases h.2 with h2 | ⟨g, cap, cur, h1, h2, h3, h4⟩
  · exact Or.inl h2
  · exact Or.inr ⟨g, cap, cur, h1, h2, by rw [Below.heap_setCell _ _ _ _ (by omega)]; exact h3, h4⟩
set_option maxRecDepth 100000 in
set_option maxHeartbeats 800000 in
theorem encode_bad (xv : Value) (x : Val) (c : Int) (w : World) (hR : Reads w.heap.size w 16 xv x) (hc : encR x = .error c) :
    Calls Try.prog 10 #[xv] w (EncAnswers w (.error c)) := by
  have hmf : ∀ (fn : Fn) (first cap : Array Value) (w : World), (Instr.makeFunc fn first cap).run Try.prog w = .ok (.func fn first cap) w := fun _ _ _ _ => rfl
  have hst := run_storeF
  obtain ⟨k, u, b, f, l⟩ := x
  obtain ⟨a1, n1, p1, a2, n2, p2, rfl⟩ := hR.shape
  have hB2 : Below w.heap.size w (((w.alloc (.cells #[.int .i64 k, .int .u64 u, .slice a1 n1 p1, .float .f64 f, .slice a2 n2 p2] 27)).alloc (.cells #[.slice none 0 0] 23)).alloc (.cells #[.int .i64 0] 29)) :=
    (((Below.refl _ _).alloc (Nat.le_refl _) _).alloc (by simp) _).alloc (by simp; omega) _
  have hw := write_ok 16 _ (.slice none 0 0) _ _ [] 0 _ (by omega) (by simp) (Nat.le_refl _) (own_nil _ _) (Reads.mono hB2.size 16 _ _ (Reads.below hB2 16 _ _ hR))
  rw [show encV 16 [] (.mk k u b f l) = .error c from hc] at hw
  have HW := Lib.hid hw
  have HB := Lib.hid hB2
  have HT := Lib.hid (three_cells w #[.int .i64 k, .int .u64 u, .slice a1 n1 p1, .float .f64 f, .slice a2 n2 p2] (.slice none 0 0) (.int .i64 0) 27 23 29)
  clear hw hB2 hc hR
  go_enter_defers Try.func10, Try.ntmps10
  go_wp2_with fail
  refine HW.out.mono ?_
  rintro e w1 ⟨rfl, hb, hs⟩
  go_wp2
  obtain ⟨t0, t1, z0, z1⟩ := HT.out
  have hc0 : w1.cell? ⟨w.heap.size + 1, 0, none⟩ = some (.slice none 0 0) := by rw [hb.cell (p := ⟨w.heap.size + 1, 0, none⟩) (by simp)]; exact t0
  have hz0 : w1.frozen? ⟨w.heap.size + 1, 0, none⟩ = false := by rw [hb.frozen (p := ⟨w.heap.size + 1, 0, none⟩) (by simp)]; exact z0
  have hc1 : w1.cell? ⟨w.heap.size + 1 + 1, 0, none⟩ = some (.int .i64 0) := by rw [hb.cell (p := ⟨w.heap.size + 1 + 1, 0, none⟩) (by simp)]; exact t1
  have hz1 : w1.frozen? ⟨w.heap.size + 1 + 1, 0, none⟩ = false := by rw [hb.frozen (p := ⟨w.heap.size + 1 + 1, 0, none⟩) (by simp)]; exact z1
  obtain ⟨c0, c1⟩ := put_two (w := w1) (p := ⟨w.heap.size + 1, 0, none⟩) (q := ⟨w.heap.size + 1 + 1, 0, none⟩) (by simp) hc0 hc1 (.slice none 0 0) (.int .i64 c)
  refine leaves_cons (f := 20) (args := #[.pointer (some ⟨w.heap.size + 1, 0, none⟩), .pointer (some ⟨w.heap.size + 1 + 1, 0, none⟩)]) (by simp) (by simp [go_sem]) ?_
  refine (enc_panicking ⟨w.heap.size + 1, 0, none⟩ ⟨w.heap.size + 1 + 1, 0, none⟩ c (.slice none 0 0) (.int .i64 0) [] _ hc0 hz0 ?_ ?_).mono ?_
  · rw [World.cell?_setCell_other _ _ _ _ (by simp)]; exact hc1
  · simpa [go_sem] using hz1
  rintro e u' w'' ⟨rfl, rfl, rfl⟩
  have hb3 := HB.out.trans (hb.mono HB.out.size)
  have hb4 : Below w.heap.size w ((w1.setCell ⟨w.heap.size + 1, 0, none⟩ (.slice none 0 0)).setCell ⟨w.heap.size + 1 + 1, 0, none⟩ (.int .i64 c)) := (hb3.setCell (by simp) _).setCell (by simp; omega) _
  generalize (w1.setCell ⟨w.heap.size + 1, 0, none⟩ (.slice none 0 0)).setCell ⟨w.heap.size + 1 + 1, 0, none⟩ (.int .i64 c) = w3 at *
  simp [Leaves, settle, results, Try.results10, go_sem, c0, c1, EncAnswers]
  exact hb4
set_option maxRecDepth 100000 in
set_option maxHeartbeats 800000 in
theorem encode_fit (xv : Value) (x : Val) (o : List UInt8) (w : World) (hR : Reads w.heap.size w 16 xv x) (hc : encR x = .ok o) :
    Calls Try.prog 10 #[xv] w (EncAnswers w (.ok o)) := by
  have hmf : ∀ (fn : Fn) (first cap : Array Value) (w : World), (Instr.makeFunc fn first cap).run Try.prog w = .ok (.func fn first cap) w := fun _ _ _ _ => rfl
  have hst := run_storeF
  obtain ⟨k, u, b, f, l⟩ := x
  obtain ⟨a1, n1, p1, a2, n2, p2, rfl⟩ := hR.shape
  have hB2 : Below w.heap.size w (((w.alloc (.cells #[.int .i64 k, .int .u64 u, .slice a1 n1 p1, .float .f64 f, .slice a2 n2 p2] 27)).alloc (.cells #[.slice none 0 0] 23)).alloc (.cells #[.int .i64 0] 29)) :=
    (((Below.refl _ _).alloc (Nat.le_refl _) _).alloc (by simp) _).alloc (by simp; omega) _
  have hw := write_ok 16 _ (.slice none 0 0) _ _ [] 0 _ (by omega) (by simp) (Nat.le_refl _) (own_nil _ _) (Reads.mono hB2.size 16 _ _ (Reads.below hB2 16 _ _ hR))
  rw [show encV 16 [] (.mk k u b f l) = .ok o from hc] at hw
  have HW := Lib.hid hw
  have HB := Lib.hid hB2
  have HT := Lib.hid (three_cells w #[.int .i64 k, .int .u64 u, .slice a1 n1 p1, .float .f64 f, .slice a2 n2 p2] (.slice none 0 0) (.int .i64 0) 27 23 29)
  clear hw hB2 hc hR
  go_enter_defers Try.func10, Try.ntmps10
  go_wp2_with fail
  refine HW.out.mono ?_
  rintro e w1 ⟨v', rfl, hown, hgr⟩
  have hb := hgr.below (own_nil _ _) (Nat.le_refl _)
  obtain ⟨t0, t1, z0, z1⟩ := HT.out
  obtain ⟨sa, sc, hsl⟩ := own_slice hown
  have hc0 : w1.cell? ⟨w.heap.size + 1, 0, none⟩ = some (.slice none 0 0) := by rw [hb.cell (p := ⟨w.heap.size + 1, 0, none⟩) (by simp)]; exact t0
  have hz0 : w1.frozen? ⟨w.heap.size + 1, 0, none⟩ = false := by rw [hb.frozen (p := ⟨w.heap.size + 1, 0, none⟩) (by simp)]; exact z0
  have hc1 : w1.cell? ⟨w.heap.size + 1 + 1, 0, none⟩ = some (.int .i64 0) := by rw [hb.cell (p := ⟨w.heap.size + 1 + 1, 0, none⟩) (by simp)]; exact t1
  have hz1 : w1.frozen? ⟨w.heap.size + 1 + 1, 0, none⟩ = false := by rw [hb.frozen (p := ⟨w.heap.size + 1 + 1, 0, none⟩) (by simp)]; exact z1
  subst hsl
  obtain ⟨c0, c1⟩ := put_two (w := w1) (p := ⟨w.heap.size + 1, 0, none⟩) (q := ⟨w.heap.size + 1 + 1, 0, none⟩) (by simp) hc0 hc1 (.slice sa o.length sc) (.int .i64 0)
  have hb3 := HB.out.trans (hb.mono HB.out.size)
  have hb4 : Below w.heap.size w ((w1.setCell ⟨w.heap.size + 1, 0, none⟩ (.slice sa o.length sc)).setCell ⟨w.heap.size + 1 + 1, 0, none⟩ (.int .i64 0)) := (hb3.setCell (by simp) _).setCell (by simp; omega) _
  have ho4 : Own ((w1.setCell ⟨w.heap.size + 1, 0, none⟩ (.slice sa o.length sc)).setCell ⟨w.heap.size + 1 + 1, 0, none⟩ (.int .i64 0)) w.heap.size (.slice sa o.length sc) o := ((hown.setCell (by simp) _).setCell (by simp) _).mono (by simp; omega)
  have C0 := Lib.hid c0
  have C1 := Lib.hid c1
  have B4 := Lib.hid hb4
  have O4 := Lib.hid ho4
  clear c0 c1 hb4 hb3 t0 t1 z0 z1 hb ho4 hown hgr HW HT HB
  go_wp2
  refine leaves_cons (f := 20) (args := #[.pointer (some ⟨w.heap.size + 1, 0, none⟩), .pointer (some ⟨w.heap.size + 1 + 1, 0, none⟩)]) (by simp) (by simp [go_sem]) ?_
  refine (enc_idle ⟨w.heap.size + 1, 0, none⟩ ⟨w.heap.size + 1 + 1, 0, none⟩ _).mono ?_
  rintro e u' w'' ⟨rfl, rfl, rfl⟩
  have c0 := C0.out
  have c1 := C1.out
  have b4 := B4.out
  have o4 := O4.out
  clear C0 C1 B4 O4
  generalize (w1.setCell ⟨w.heap.size + 1, 0, none⟩ (.slice sa o.length sc)).setCell ⟨w.heap.size + 1 + 1, 0, none⟩ (.int .i64 0) = w3 at *
  simp [Leaves, settle, results, Try.results10, go_sem, c0, c1, EncAnswers]
  exact ⟨o4, b4⟩
theorem encode_any (xv : Value) (x : Val) (w : World) (hR : Reads w.heap.size w 16 xv x) : Calls Try.prog 10 #[xv] w (EncAnswers w (encR x)) := by
  cases h : encR x with
  | ok o => exact encode_fit xv x o w hR h
  | error c => exact encode_bad xv x c w hR h
end Go.Proofs.Ytgppadnbfggkcaa
