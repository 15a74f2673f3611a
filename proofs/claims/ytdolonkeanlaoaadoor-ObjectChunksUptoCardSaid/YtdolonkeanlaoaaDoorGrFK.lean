/- Contracts: Encode and Decode's deferred closures. Contracts: Encode. The reference's Head and Bits. The walk of the reference's write. The walk of the reference's write: lists, and whole. Contracts: the reference's Encode; a slice of bytes as a string. -/
import Derived.Test.YtdolonkeanlaoaaDoorGrAE
import Derived.Defers
import Derived.Recover
import Derived.OneCell
namespace Go.Proofs.YtdolonkeanlaoaaDoor
open Go.RowKit

set_option maxHeartbeats 400000 in
theorem code_any (c : Int) (w : World) :
    Calls Tryd.prog 62 #[.iface 24 (.int .i64 c)] w fun e w' => e = .returned (.int .i64 c) ∧ w = w' := by
  have hta : ∀ w, (Instr.typeAssert (.iface 24 (.int .i64 c)) 20 24 true).run Tryd.prog w = .ok (.tuple #[.int .i64 c, .bool true]) w := fun _ => by kernel_rfl
  go_enter Tryd.func62, Tryd.ntmps62
  go_wp2
  go_ret
  exact ⟨rfl, rfl⟩
set_option maxHeartbeats 400000 in
theorem enc_idle (p q : Addr) (w : World) :
    CallsD Tryd.prog 64 #[.pointer (some p), .pointer (some q)] .returning w fun e u' w' => e = .returned (.tuple #[]) ∧ u' = .returning ∧ w' = w := by
  refine callsD_of_wpS Tryd.func64 rfl fun c₀ cs hu => ?_
  apply wpS_seq
  apply wpS_region
  simp [wpOpsS, go_sem, recoverD, hu, Tryd.ntmps64, Exit.thenS]
  refine wpS_of_wp ?_
  go_wp2
  cases c₀
  simp_all [bodyPostS, results, Tryd.results64]
set_option maxRecDepth 100000 in
set_option maxHeartbeats 1600000 in
theorem enc_panicking (p q : Addr) (c : Int) (x y : Value) (older : List PanicEntry) (w : World) (hp : w.cell? p = some x) (hzp : w.frozen? p = false)
    (hq : (w.setCell p (.slice none 0 0)).cell? q = some y) (hzq : (w.setCell p (.slice none 0 0)).frozen? q = false) :
    CallsD Tryd.prog 64 #[.pointer (some p), .pointer (some q)] (.panicking ({ v := .iface 24 (.int .i64 c), recovered := false } :: older)) w fun e u' w' =>
      e = .returned (.tuple #[]) ∧ u' = .panicking ({ v := .iface 24 (.int .i64 c), recovered := true } :: older) ∧ w' = (w.setCell p (.slice none 0 0)).setCell q (.int .i64 c) := by
  refine callsD_of_wpS Tryd.func64 rfl fun c₀ cs hu => ?_
  have HP := Lib.hid hp
  have HQ := Lib.hid hq
  have HZP := Lib.hid hzp
  have HZQ := Lib.hid hzq
  clear hp hq hzp hzq
  apply wpS_seq
  apply wpS_region
  simp [wpOpsS, go_sem, recoverD, hu, Tryd.ntmps64, Exit.thenS]
  have HU := Lib.hid hu
  clear hu
  rw [show (#[Value.pointer (some p), Value.pointer (some q)] ++ ((Array.replicate 6 undef).setIfInBounds 1 (Value.iface 24 (Value.int IntKind.i64 c))).setIfInBounds 0 (Value.iface 24 (Value.int IntKind.i64 c)) : Array Value)
    = #[.pointer (some p), .pointer (some q), .iface 24 (.int .i64 c), .iface 24 (.int .i64 c), undef, undef, undef, undef] from rfl]
  generalize hc1 : { c₀ with mode := FrameMode.panicking ({ v := Value.iface 24 (Value.int IntKind.i64 c), recovered := true, goexit := false } :: older) } = c1
  have HC := Lib.hid hc1
  clear hc1
  refine wpS_of_wp ?_
  generalize hq : (fun e a' w' => bodyPostS Tryd.prog Tryd.f64 c₀ cs (fun e u' w' =>
      e = Ending.returned (Value.tuple #[]) ∧
        u' = FrameMode.panicking ({ v := Value.iface 24 (Value.int IntKind.i64 c), recovered := true } :: older) ∧
          w' = (w.setCell p (Value.slice none 0 0)).setCell q (Value.int IntKind.i64 c)) e a' (c1 :: cs) w') = Q
  have HQQ := Lib.hid hq
  clear hq
  have hp := HP.out
  have hq := HQ.out
  have hzp := HZP.out
  have hzq := HZQ.out
  go_wp2_with fail
  refine (code_any c _).mono ?_
  rintro e w' ⟨rfl, rfl⟩
  go_wp2
  have e := HQQ.out
  subst e
  have e1 := HC.out
  subst e1
  cases c₀
  simp [bodyPostS, results, Tryd.results64]
end Go.Proofs.YtdolonkeanlaoaaDoor
namespace Go.Proofs.YtdolonkeanlaoaaDoor
open Go.RowKit

theorem Reads.mono {B B' : Nat} {w : World} (hB : B ≤ B') : ∀ (n : Nat) (v : Value) (x : Val), Reads B w n v x → Reads B' w n v x
  | 0, v, .mk .., h => h
  | n + 1, v, .mk .., h => by
    obtain ⟨vb, vl, h1, h2, h3, h4, h5, h6, h7⟩ := h
    refine ⟨vb, vl, h1, h2, h3, h4, h5, ?_, ?_⟩
    · rcases h6 with h6 | ⟨a, cap, e1, e2, e3⟩
      · exact Or.inl h6
      · exact Or.inr ⟨a, cap, e1, e2.imp_right (fun h => by omega), e3⟩
    · rcases h7 with h7 | ⟨g, o, cap, e1, e2, e3⟩
      · exact Or.inl h7
      · refine Or.inr ⟨g, o, cap, e1, by omega, fun j x hj => ?_⟩
        obtain ⟨c0, c1, c2, c3, c4, d0, d1, d2, d3, d4, hr⟩ := e3 j x hj
        exact ⟨c0, c1, c2, c3, c4, d0, d1, d2, d3, d4, Reads.mono hB n _ _ hr⟩
theorem Own.mono {w : World} {B B' : Nat} {v : Value} {l : List UInt8} (h : Own w B v l) (hB : B' ≤ B) : Own w B' v l := by
  refine ⟨h.1, ?_⟩
  rcases h.2 with h2 | ⟨g, cap, cur, h1, h2, h3⟩
  · exact Or.inl h2
  · exact Or.inr ⟨g, cap, cur, h1, by omega, h3⟩
/-- What Encode answers. -/
def encR (x : Val) : Except Int (List UInt8) := encV 16 [] x
def EncAnswers (w : World) (r : Except Int (List UInt8)) (e : Ending) (w' : World) : Prop :=
  match r with
  | .ok o => ∃ v', e = .returned (.tuple #[v', .int .i64 0]) ∧ Own w' w.heap.size v' o ∧ Below w.heap.size w w'
  | .error c => e = .returned (.tuple #[.slice none 0 0, .int .i64 c]) ∧ Below w.heap.size w w'
theorem three_cells (w : World) (cs : Array Value) (v0 v1 : Value) (t t0 t1 : TypeId) :
    (((w.alloc (.cells cs t)).alloc (.cells #[v0] t0)).alloc (.cells #[v1] t1)).cell? ⟨w.heap.size + 1, 0, none⟩ = some v0 ∧ (((w.alloc (.cells cs t)).alloc (.cells #[v0] t0)).alloc (.cells #[v1] t1)).cell? ⟨w.heap.size + 1 + 1, 0, none⟩ = some v1 ∧
    (((w.alloc (.cells cs t)).alloc (.cells #[v0] t0)).alloc (.cells #[v1] t1)).frozen? ⟨w.heap.size + 1, 0, none⟩ = false ∧ (((w.alloc (.cells cs t)).alloc (.cells #[v0] t0)).alloc (.cells #[v1] t1)).frozen? ⟨w.heap.size + 1 + 1, 0, none⟩ = false := by
  have h0 : (((w.alloc (.cells cs t)).alloc (.cells #[v0] t0)).alloc (.cells #[v1] t1)).heap[w.heap.size + 1]? = some (.cells #[v0] t0 (0, 0)) := by
    show (((w.heap.push _).push _).push _)[w.heap.size + 1]? = _
    rw [Array.getElem?_push, if_neg (by simp), Array.getElem?_push, if_pos (by simp)]
  have h1 : (((w.alloc (.cells cs t)).alloc (.cells #[v0] t0)).alloc (.cells #[v1] t1)).heap[w.heap.size + 1 + 1]? = some (.cells #[v1] t1 (0, 0)) := by
    show (((w.heap.push _).push _).push _)[w.heap.size + 1 + 1]? = _
    rw [Array.getElem?_push, if_pos (by simp)]
  exact ⟨cell_of_one h0, cell_of_one h1, free_of_one h0, free_of_one h1⟩
theorem put_two {w : World} {p q : Addr} (hpq : p.block ≠ q.block) {x y : Value} (hp : w.cell? p = some x) (hq : w.cell? q = some y) (u v : Value) :
    ((w.setCell p u).setCell q v).cell? p = some u ∧ ((w.setCell p u).setCell q v).cell? q = some v := by
  refine ⟨?_, ?_⟩
  · rw [World.cell?_setCell_other _ _ _ _ (by intro h; exact hpq (by rw [h]))]; exact World.cell?_setCell_same _ _ _ hp
  · refine World.cell?_setCell_same (u := y) _ _ _ ?_
    rw [World.cell?_setCell_other _ _ _ _ (by intro h; exact hpq (by rw [h]))]; exact hq
theorem Own.setCell {w : World} {B : Nat} {v : Value} {l : List UInt8} (h : Own w B v l) {p : Addr} (hp : p.block < B) (u : Value) : Own (w.setCell p u) B v l := by
  refine ⟨h.1, ?_⟩
  rcases h.2 with h2 | ⟨g, cap, cur, h1, h2, h3, h4⟩
  · exact Or.inl h2
  · exact Or.inr ⟨g, cap, cur, h1, h2, by rw [Below.heap_setCell _ _ _ _ (by omega)]; exact h3, h4⟩
set_option maxRecDepth 100000 in
set_option maxHeartbeats 800000 in
theorem encode_bad (xv : Value) (x : Val) (c : Int) (w : World) (hR : Reads w.heap.size w 16 xv x) (hc : encR x = .error c) :
    Calls Tryd.prog 42 #[xv] w (EncAnswers w (.error c)) := by
  have hmf : ∀ (fn : Fn) (first cap : Array Value) (w : World), (Instr.makeFunc fn first cap).run Tryd.prog w = .ok (.func fn first cap) w := fun _ _ _ _ => rfl
  have hst := run_storeF
  obtain ⟨k, u, b, f, l⟩ := x
  obtain ⟨a1, n1, p1, a2, n2, p2, rfl⟩ := hR.shape
  have hB2 : Below w.heap.size w (((w.alloc (.cells #[.int .i64 k, .int .u64 u, .slice a1 n1 p1, .float .f64 f, .slice a2 n2 p2] 53)).alloc (.cells #[.slice none 0 0] 22)).alloc (.cells #[.int .i64 0] 24)) :=
    (((Below.refl _ _).alloc (Nat.le_refl _) _).alloc (by simp) _).alloc (by simp; omega) _
  have hw := write_ok 16 _ (.slice none 0 0) _ _ [] 0 _ (by omega) (by simp) (Nat.le_refl _) (own_nil _ _) (Reads.mono hB2.size 16 _ _ (Reads.below hB2 16 _ _ hR))
  rw [show encV 16 [] (.mk k u b f l) = .error c from hc] at hw
  have HW := Lib.hid hw
  have HB := Lib.hid hB2
  have HT := Lib.hid (three_cells w #[.int .i64 k, .int .u64 u, .slice a1 n1 p1, .float .f64 f, .slice a2 n2 p2] (.slice none 0 0) (.int .i64 0) 53 22 24)
  clear hw hB2 hc hR
  go_enter_defers Tryd.func42, Tryd.ntmps42
  go_wp2_with fail
  refine HW.out.mono ?_
  rintro e w1 ⟨rfl, hb, hs⟩
  go_wp2
  obtain ⟨t0, t1, z0, z1⟩ := HT.out
  have hc0 : w1.cell? ⟨w.heap.size + 1, 0, none⟩ = some (.slice none 0 0) := by rw [hb.cell (p := ⟨w.heap.size + 1, 0, none⟩) (by simp)]; exact t0
  have hz0 : w1.frozen? ⟨w.heap.size + 1, 0, none⟩ = false := by rw [hb.frozen (p := ⟨w.heap.size + 1, 0, none⟩) (by simp)]; exact z0
  have hc1 : w1.cell? ⟨w.heap.size + 1 + 1, 0, none⟩ = some (.int .i64 0) := by rw [hb.cell (p := ⟨w.heap.size + 1 + 1, 0, none⟩) (by simp)]; exact t1
  have hz1 : w1.frozen? ⟨w.heap.size + 1 + 1, 0, none⟩ = false := by rw [hb.frozen (p := ⟨w.heap.size + 1 + 1, 0, none⟩) (by simp)]; exact z1
  obtain ⟨c0, c1⟩ := put_two (w := w1) (p := ⟨w.heap.size + 1, 0, none⟩) (q := ⟨w.heap.size + 1 + 1, 0, none⟩) (by simp) hc0 hc1 (.slice none 0 0) (.int .i64 c)
  refine leaves_cons (f := 64) (args := #[.pointer (some ⟨w.heap.size + 1, 0, none⟩), .pointer (some ⟨w.heap.size + 1 + 1, 0, none⟩)]) (by simp) (by simp [go_sem]) ?_
  refine (enc_panicking ⟨w.heap.size + 1, 0, none⟩ ⟨w.heap.size + 1 + 1, 0, none⟩ c (.slice none 0 0) (.int .i64 0) [] _ hc0 hz0 ?_ ?_).mono ?_
  · rw [World.cell?_setCell_other _ _ _ _ (by simp)]; exact hc1
  · simpa [go_sem] using hz1
  rintro e u' w'' ⟨rfl, rfl, rfl⟩
  have hb3 := HB.out.trans (hb.mono HB.out.size)
  have hb4 : Below w.heap.size w ((w1.setCell ⟨w.heap.size + 1, 0, none⟩ (.slice none 0 0)).setCell ⟨w.heap.size + 1 + 1, 0, none⟩ (.int .i64 c)) := (hb3.setCell (by simp) _).setCell (by simp; omega) _
  generalize (w1.setCell ⟨w.heap.size + 1, 0, none⟩ (.slice none 0 0)).setCell ⟨w.heap.size + 1 + 1, 0, none⟩ (.int .i64 c) = w3 at *
  simp [Leaves, settle, results, Tryd.results42, go_sem, c0, c1, EncAnswers]
  exact hb4
set_option maxRecDepth 100000 in
set_option maxHeartbeats 800000 in
theorem encode_fit (xv : Value) (x : Val) (o : List UInt8) (w : World) (hR : Reads w.heap.size w 16 xv x) (hc : encR x = .ok o) :
    Calls Tryd.prog 42 #[xv] w (EncAnswers w (.ok o)) := by
  have hmf : ∀ (fn : Fn) (first cap : Array Value) (w : World), (Instr.makeFunc fn first cap).run Tryd.prog w = .ok (.func fn first cap) w := fun _ _ _ _ => rfl
  have hst := run_storeF
  obtain ⟨k, u, b, f, l⟩ := x
  obtain ⟨a1, n1, p1, a2, n2, p2, rfl⟩ := hR.shape
  have hB2 : Below w.heap.size w (((w.alloc (.cells #[.int .i64 k, .int .u64 u, .slice a1 n1 p1, .float .f64 f, .slice a2 n2 p2] 53)).alloc (.cells #[.slice none 0 0] 22)).alloc (.cells #[.int .i64 0] 24)) :=
    (((Below.refl _ _).alloc (Nat.le_refl _) _).alloc (by simp) _).alloc (by simp; omega) _
  have hw := write_ok 16 _ (.slice none 0 0) _ _ [] 0 _ (by omega) (by simp) (Nat.le_refl _) (own_nil _ _) (Reads.mono hB2.size 16 _ _ (Reads.below hB2 16 _ _ hR))
  rw [show encV 16 [] (.mk k u b f l) = .ok o from hc] at hw
  have HW := Lib.hid hw
  have HB := Lib.hid hB2
  have HT := Lib.hid (three_cells w #[.int .i64 k, .int .u64 u, .slice a1 n1 p1, .float .f64 f, .slice a2 n2 p2] (.slice none 0 0) (.int .i64 0) 53 22 24)
  clear hw hB2 hc hR
  go_enter_defers Tryd.func42, Tryd.ntmps42
  go_wp2_with fail
  refine HW.out.mono ?_
  rintro e w1 ⟨v', rfl, hown, hgr⟩
  have hb := hgr.below (own_nil _ _) (Nat.le_refl _)
  obtain ⟨t0, t1, z0, z1⟩ := HT.out
  obtain ⟨sa, sc, hsl⟩ := own_slice hown
  have hc0 : w1.cell? ⟨w.heap.size + 1, 0, none⟩ = some (.slice none 0 0) := by rw [hb.cell (p := ⟨w.heap.size + 1, 0, none⟩) (by simp)]; exact t0
  have hz0 : w1.frozen? ⟨w.heap.size + 1, 0, none⟩ = false := by rw [hb.frozen (p := ⟨w.heap.size + 1, 0, none⟩) (by simp)]; exact z0
  have hc1 : w1.cell? ⟨w.heap.size + 1 + 1, 0, none⟩ = some (.int .i64 0) := by rw [hb.cell (p := ⟨w.heap.size + 1 + 1, 0, none⟩) (by simp)]; exact t1
  have hz1 : w1.frozen? ⟨w.heap.size + 1 + 1, 0, none⟩ = false := by rw [hb.frozen (p := ⟨w.heap.size + 1 + 1, 0, none⟩) (by simp)]; exact z1
  subst hsl
  obtain ⟨c0, c1⟩ := put_two (w := w1) (p := ⟨w.heap.size + 1, 0, none⟩) (q := ⟨w.heap.size + 1 + 1, 0, none⟩) (by simp) hc0 hc1 (.slice sa o.length sc) (.int .i64 0)
  have hb3 := HB.out.trans (hb.mono HB.out.size)
  have hb4 : Below w.heap.size w ((w1.setCell ⟨w.heap.size + 1, 0, none⟩ (.slice sa o.length sc)).setCell ⟨w.heap.size + 1 + 1, 0, none⟩ (.int .i64 0)) := (hb3.setCell (by simp) _).setCell (by simp; omega) _
  have ho4 : Own ((w1.setCell ⟨w.heap.size + 1, 0, none⟩ (.slice sa o.length sc)).setCell ⟨w.heap.size + 1 + 1, 0, none⟩ (.int .i64 0)) w.heap.size (.slice sa o.length sc) o := ((hown.setCell (by simp) _).setCell (by simp) _).mono (by simp; omega)
  have C0 := Lib.hid c0
  have C1 := Lib.hid c1
  have B4 := Lib.hid hb4
  have O4 := Lib.hid ho4
  clear c0 c1 hb4 hb3 t0 t1 z0 z1 hb ho4 hown hgr HW HT HB
  go_wp2
  refine leaves_cons (f := 64) (args := #[.pointer (some ⟨w.heap.size + 1, 0, none⟩), .pointer (some ⟨w.heap.size + 1 + 1, 0, none⟩)]) (by simp) (by simp [go_sem]) ?_
  refine (enc_idle ⟨w.heap.size + 1, 0, none⟩ ⟨w.heap.size + 1 + 1, 0, none⟩ _).mono ?_
  rintro e u' w'' ⟨rfl, rfl, rfl⟩
  have c0 := C0.out
  have c1 := C1.out
  have b4 := B4.out
  have o4 := O4.out
  clear C0 C1 B4 O4
  generalize (w1.setCell ⟨w.heap.size + 1, 0, none⟩ (.slice sa o.length sc)).setCell ⟨w.heap.size + 1 + 1, 0, none⟩ (.int .i64 0) = w3 at *
  simp [Leaves, settle, results, Tryd.results42, go_sem, c0, c1, EncAnswers]
  exact ⟨o4, b4⟩
theorem encode_any (xv : Value) (x : Val) (w : World) (hR : Reads w.heap.size w 16 xv x) : Calls Tryd.prog 42 #[xv] w (EncAnswers w (encR x)) := by
  cases h : encR x with
  | ok o => exact encode_fit xv x o w hR h
  | error c => exact encode_bad xv x c w hR h
end Go.Proofs.YtdolonkeanlaoaaDoor
namespace Go.Proofs.YtdolonkeanlaoaaDoor
open Go.RowKit

theorem byte_string (w : World) (x : Int) (h0 : 0 ≤ x) (h1 : x < 256) : (convert 22 9 (.slice (some ⟨w.heap.size, 0, none⟩) 1 1)).run Tryd.prog (w.alloc (.cells #[.int .u8 x] 5)) = .ok (.string ⟨#[UInt8.ofNat x.toNat]⟩) (w.alloc (.cells #[.int .u8 x] 5)) := by
  have e : ((UInt8.ofNat x.toNat).toNat : Int) = x := by simp; omega
  have h := run_convert_bytes_back (P := Tryd.prog) (w.alloc (.cells #[.int .u8 x] 5)) 22 9 5 ⟨w.heap.size, 0, none⟩ 1 [UInt8.ofNat x.toNat] Tryd.underlying22 Tryd.underlying5 Tryd.underlying9 (fun j hj => by
    have : j = 0 := by simpa using hj
    subst this
    have := news_one w (.int .u8 x) 5 0 (.int .u8 x) rfl
    rw [this]
    simp only [List.getElem_cons_zero]
    rw [e])
  exact h
theorem mk_append (l r : List UInt8) : (⟨l.toArray⟩ : ByteArray) ++ ⟨r.toArray⟩ = ⟨(l ++ r).toArray⟩ := ByteArray.mk_append_mk l r
set_option maxRecDepth 100000 in
set_option maxHeartbeats 1000000 in
theorem rhead_any (k n : Nat) (w : World) (hk : k < 4) (hn : n < 18446744073709551616) :
    Calls Tryd.prog 83 #[.int .i64 k, .int .u64 n] w fun e w' => e = .returned (.string ⟨(headB k n).toArray⟩) ∧ Below w.heap.size w w' := by
  have HL := Lib.hid (headB_len k n hn)
  have HN := Lib.hid hn
  clear hn
  go_enter Tryd.func83, Tryd.ntmps83
  go_wp2_with fail
  go_loopw [1, 5, 6] (fun m p s wr => ∃ (o : List UInt8) (part m' : Nat), m = .int .u64 m' ∧ p = .int .i64 part ∧ s = .string ⟨o.toArray⟩ ∧ part < 128 ∧ m' ≤ n ∧ o ++ headL part m' = headB k n ∧ Below w.heap.size w wr)
    (fun m _ _ _ => (intOf m).toNat)
  case atStart =>
    refine ⟨[], n % 32 * 4 + k, n / 32, ?_, ?_, rfl, by omega, by omega, rfl, Below.refl _ _⟩
    · exact congrArg (Value.int .u64) (by have := HN.out; rw [IntKind.wrap_u64]; omega)
    · go_num
  case round =>
    obtain ⟨o, part, m, rfl, rfl, rfl, hp, hm, hh, hbr⟩ := hrel
    have ho : o.length ≤ 11 := by
      have e := congrArg List.length hh
      rw [List.length_append] at e
      have := HL.out
      omega
    have hsz := hbr.size
    have HR := Lib.hid hbr
    have HH := Lib.hid hh
    clear hbr hh
    by_cases hm0 : m = 0
    · subst hm0
      have hcv := byte_string wr (part : Int) (by omega) (by omega)
      go_wp2_with fail
      go_ret
      have e : headL part 0 = [UInt8.ofNat part] := by rw [headL, if_pos rfl]
      have hh := HH.out
      rw [e] at hh
      refine ⟨?_, HR.out.alloc (by omega) _⟩
      rw [← hh, ← mk_append]; rfl
    · have hm1 : 0 < m := by omega
      have hcv := byte_string wr ((part : Int) + 128) (by omega) (by omega)
      go_wp2_with fail
      have hw : IntKind.u64.wrap ((m : Int) / 128) = ((m / 128 : Nat) : Int) := by have := HN.out; rw [IntKind.wrap_u64]; omega
      rw [hw]
      refine ⟨⟨o ++ [UInt8.ofNat (part + 128)], m % 128, m / 128, rfl, rfl, ?_, by omega, by omega, ?_, HR.out.alloc (by omega) _⟩, by simp [intOf]; omega⟩
      · have e : (UInt8.ofNat part + 128 : UInt8) = UInt8.ofNat (part + 128) := UInt8.toNat.inj (by simp [UInt8.toNat_add])
        rw [e, ← mk_append]
      · have e : headL part m = UInt8.ofNat (part + 128) :: headL (m % 128) (m / 128) := by rw [headL, if_neg hm0]
        rw [← HH.out, e, List.append_assoc]; rfl
set_option maxHeartbeats 400000 in
theorem rbits_any (b : Nat) (w : World) :
    Calls Tryd.prog 84 #[.float .f64 b] w fun e w' => e = .returned (.int .u64 (canonB b)) ∧ w = w' := by
  have h19 := fb19 b
  cases h : nanB b with
  | true =>
    have e : canonB b = 9221120237041090560 := by unfold canonB; rw [if_pos h]
    rw [e]
    have hn : (FloatKind.f64.format.order b b != some .eq) = true := h
    clear e h
    go_enter Tryd.func84, Tryd.ntmps84
    go_wp2
    go_ret
    exact ⟨rfl, rfl⟩
  | false =>
    have e : canonB b = b := by unfold canonB; rw [if_neg (by rw [h]; decide)]
    rw [e]
    have hn : (FloatKind.f64.format.order b b != some .eq) = false := h
    clear e h
    go_enter Tryd.func84, Tryd.ntmps84
    go_wp2
    go_ret
    exact ⟨rfl, rfl⟩
end Go.Proofs.YtdolonkeanlaoaaDoor
namespace Go.Proofs.YtdolonkeanlaoaaDoor
open Go.RowKit

def RGives (B : Nat) (w : World) (v : Value) (r : Except Int (List UInt8)) (e : Ending) (w' : World) : Prop :=
  match r with
  | .ok o => ∃ v', e = .returned (.tuple #[v', .int .i64 0]) ∧ Own w' B v' o ∧ Grew w w' v v'
  | .error c => e = .returned (.tuple #[.slice none 0 0, .int .i64 c]) ∧ Below B w w' ∧ w.heap.size ≤ w'.heap.size
def RWriteOk (n : Nat) : Prop := ∀ (B : Nat) (v xv : Value) (x : Val) (o : List UInt8) (a : Nat) (w : World), a + n = 16 → o.length ≤ 1048576 + 16 * a → B ≤ w.heap.size → Own w B v o → Reads B w n xv x →
    Calls Tryd.prog 67 #[v, xv, .int .i64 (a + 1 : Nat)] w (RGives B w v (encV n o x))
set_option maxRecDepth 100000 in
set_option maxHeartbeats 1000000 in
theorem rwrite_deep : RWriteOk 0 := by
  intro B v xv x o a w ha ho hB hO hR
  obtain ⟨k, u, b, f, l⟩ := x
  obtain ⟨a1, n1, c1, a2, n2, c2, rfl⟩ := hR.shape
  have e : a = 16 := by omega
  subst e
  clear hR hO
  go_enter Tryd.func67, Tryd.ntmps67
  go_wp2
  go_ret2
  exact ⟨rfl, (Below.refl _ _).alloc hB _, by simp⟩
set_option maxRecDepth 100000 in
set_option maxHeartbeats 1000000 in
theorem rwrite_other (B : Nat) (v vb vl : Value) (k : Int) (u f a : Nat) (w : World) (ha : a < 16) (hB : B ≤ w.heap.size) (h0 : (k == 0) = false) (h1 : (k == 1) = false) (h2 : (k == 2) = false) (h3 : (k == 3) = false) :
    Calls Tryd.prog 67 #[v, .agg #[.int .i64 k, .int .u64 u, vb, .float .f64 f, vl], .int .i64 (a + 1 : Nat)] w (RGives B w v (.error 22)) := by
  go_enter Tryd.func67, Tryd.ntmps67
  go_wp2
  go_ret2
  exact ⟨rfl, (Below.refl _ _).alloc hB _, by simp⟩
theorem Grew.ofBelow {w w' : World} {v : Value} (h : Below w.heap.size w w') : Grew w w' v v := ⟨⟨h.os, h.tape, h.output, h.size, fun k hk _ => h.block k hk⟩, fun _ h => Or.inl h⟩
theorem Own.below {w w' : World} {B : Nat} {v : Value} {l : List UInt8} (h : Own w B v l) (hb : Below w.heap.size w w') : Own w' B v l := by
  refine ⟨h.1, ?_⟩
  rcases h.2 with h2 | ⟨g, cap, cur, h1, h2, h3, h4⟩
  · exact Or.inl h2
  · refine Or.inr ⟨g, cap, cur, h1, h2, ?_, h4⟩
    rw [hb.block g (Array.getElem?_eq_some_iff.1 h3).1]; exact h3
theorem Grew.boxAt {B : Nat} {w w1 : World} {v v1 : Value} {o : List UInt8} {cs : Array Value} {t : TypeId} (h : Grew (w.alloc (.cells cs t)) w1 v v1) (hO : Own w B v o) (j : Nat) {c : Value} (hc : cs[j]? = some c) : w1.cell? ⟨w.heap.size, j, none⟩ = some c := by
  rw [h.cell (p := ⟨w.heap.size, j, none⟩) (by simp) (fun e => ?_)]
  · rw [World.cell?_alloc_mark]; exact hc
  · have := (World.ownsRow.lt hO _ e).2
    simp at this
set_option maxRecDepth 100000 in
set_option maxHeartbeats 1000000 in
theorem rwrite_num (B : Nat) (v vb vl : Value) (o : List UInt8) (u f a : Nat) (w : World) (ha : a < 16) (hu : u < 18446744073709551616) (ho : o.length ≤ 2097152) (hB : B ≤ w.heap.size) (hO : Own w B v o) :
    Calls Tryd.prog 67 #[v, .agg #[.int .i64 0, .int .u64 u, vb, .float .f64 f, vl], .int .i64 (a + 1 : Nat)] w (RGives B w v (capE (.ok (o ++ headB 0 u)))) := by
  obtain ⟨i0, hi, hz0, hz1, hz2⟩ := info_parts Tryd.info5
  have HO := Lib.hid hO
  have HL := Lib.hid (headB_len 0 u hu)
  have HC := Lib.hid (fun w => rhead_any 0 u w (by omega) hu)
  generalize headB 0 u = hd at *
  generalize hr : o ++ hd = r
  have HRR := Lib.hid hr
  clear hr
  generalize hx : capE (.ok r) = x
  have HX := Lib.hid hx
  clear hx hO hu
  go_enter Tryd.func67, Tryd.ntmps67
  go_wp2_with fail
  refine (HC.out _).mono ?_
  rintro e w1 ⟨rfl, hb1⟩
  have hg1 : Grew w w1 v v := (Grew.alloc w v _).trans (Grew.ofBelow hb1)
  have hO1 : Own w1 B v o := Own.below (World.ownsRow.alloc HO.out _) hb1
  go_wp2_with (at_builtin; refine wpList_own_src _ rfl _ _ 22 9 rfl B 5 i0 (.int .u8 0) 1 1 Tryd.underlying22 hi hz0 hz1 hz2 rfl (by decide) _ _ _ rfl hO1 _ _ _ rfl (src_string _ _) ?c3 ?c4 ?c5 ?_)
  case c3 => have := HL.out; unfold maxLen; omega
  case c4 => have := HL.out; omega
  case c5 => have := hg1.size; omega
  intro v2 w2 hown2 hg2
  have hown : Own w2 B v2 r := by rw [← HRR.out]; exact own_more' rfl hown2
  have hgr := hg1.trans hg2
  clear hown2 hg2 hO1 hg1 hb1
  have hrl : r.length ≤ 4194304 := by have hq := congrArg List.length HRR.out; have := HL.out; simp only [List.length_append] at hq; omega
  obtain ⟨sa, sc, rfl⟩ := own_slice hown
  have HV := Lib.hid hown
  have HG := Lib.hid hgr
  clear hown hgr
  by_cases hlong : 1048576 < r.length
  · have hx := HX.out.symm.trans (cap_long hlong)
    clear HX
    subst hx
    go_wp2_with fail
    go_ret2
    exact ⟨rfl, HG.out.below HO.out hB, HG.out.size⟩
  · have hx := HX.out.symm.trans (cap_ok hlong)
    clear HX
    subst hx
    go_wp2_with fail
    go_ret2
    exact ⟨_, rfl, HV.out, HG.out⟩
set_option maxRecDepth 100000 in
set_option maxHeartbeats 1000000 in
theorem rwrite_bytes (B : Nat) (v vb vl : Value) (o b : List UInt8) (u f a : Nat) (w : World) (ha : a < 16) (hb : b.length ≤ 1048576) (ho : o.length ≤ 2097152) (hB : B ≤ w.heap.size) (hO : Own w B v o) (hI : BytesIn B w vb b) :
    Calls Tryd.prog 67 #[v, .agg #[.int .i64 1, .int .u64 u, vb, .float .f64 f, vl], .int .i64 (a + 1 : Nat)] w (RGives B w v (capE (.ok (o ++ headB 1 b.length ++ b)))) := by
  obtain ⟨i0, hi, hz0, hz1, hz2⟩ := info_parts Tryd.info5
  obtain ⟨p1, q1, rfl⟩ := hI.shape
  have HO := Lib.hid hO
  have HI := Lib.hid hI
  have HL := Lib.hid (headB_len 1 b.length (by omega))
  have HC := Lib.hid (fun w => rhead_any 1 b.length w (by omega) (by omega))
  generalize headB 1 b.length = hd at *
  generalize hr : o ++ hd ++ b = r
  have HRR := Lib.hid hr
  clear hr
  generalize hx : capE (.ok r) = x
  have HX := Lib.hid hx
  clear hx hO hI
  go_enter Tryd.func67, Tryd.ntmps67
  go_wp2_with fail
  refine (HC.out _).mono ?_
  rintro e w1 ⟨rfl, hb1⟩
  have hg0 : Grew (w.alloc (.cells #[.int .i64 1, .int .u64 u, .slice p1 b.length q1, .float .f64 f, vl] 53)) w1 v v := Grew.ofBelow hb1
  have hO1 : Own w1 B v o := Own.below (World.ownsRow.alloc HO.out _) hb1
  go_wp2_with (at_builtin; refine wpList_own_src _ rfl _ _ 22 9 rfl B 5 i0 (.int .u8 0) 1 1 Tryd.underlying22 hi hz0 hz1 hz2 rfl (by decide) _ _ _ rfl hO1 _ _ _ rfl (src_string _ _) ?c3 ?c4 ?c5 ?_)
  case c3 => have := HL.out; unfold maxLen; omega
  case c4 => have := HL.out; omega
  case c5 => have := hg0.size; simp at this; omega
  intro v2 w2 hown2 hg2
  have hO2 : Own w2 B v2 (o ++ hd) := own_more' rfl hown2
  have hg3 := hg0.trans hg2
  have hbox := hg3.boxAt HO.out 2 rfl
  have hI2 := HI.out.below (((Grew.alloc w v _).trans hg3).below HO.out hB)
  have HG3 := Lib.hid hg3
  have hs2 := hg3.size
  clear hown2 hg2 hO1 hg0 hb1 hg3
  go_wp2_with (at_builtin; refine wpList_own_src _ rfl _ _ 22 22 rfl B 5 i0 (.int .u8 0) 1 1 Tryd.underlying22 hi hz0 hz1 hz2 rfl (by decide) _ _ _ rfl hO2 _ _ _ rfl hI2.src ?d3 ?d4 ?d5 ?_)
  case d3 => have := HL.out; simp only [List.length_append]; unfold maxLen; omega
  case d4 => have := HL.out; simp only [List.length_append]; omega
  case d5 => simp at hs2; omega
  intro v3 w3 hown3 hg4
  have hown : Own w3 B v3 r := by rw [← HRR.out]; exact own_more' (by simp) hown3
  have hgr := (Grew.alloc w v _).trans (HG3.out.trans hg4)
  clear hown3 hg4 hO2 hI2 hbox hs2
  have hrl : r.length ≤ 4194304 := by have hq := congrArg List.length HRR.out; have := HL.out; simp only [List.length_append] at hq; omega
  obtain ⟨sa, sc, rfl⟩ := own_slice hown
  have HV := Lib.hid hown
  have HG := Lib.hid hgr
  clear hown hgr
  by_cases hlong : 1048576 < r.length
  · have hx := HX.out.symm.trans (cap_long hlong)
    clear HX
    subst hx
    go_wp2_with fail
    go_ret2
    exact ⟨rfl, HG.out.below HO.out hB, HG.out.size⟩
  · have hx := HX.out.symm.trans (cap_ok hlong)
    clear HX
    subst hx
    go_wp2_with fail
    go_ret2
    exact ⟨_, rfl, HV.out, HG.out⟩
theorem place_div (k : Nat) (h : k < 8) : 2 ^ (8 * (7 - k)) / 256 = if k = 7 then 0 else 2 ^ (8 * (7 - (k + 1))) := by
  have : ∀ k : Fin 8, 2 ^ (8 * (7 - k.val)) / 256 = if k.val = 7 then 0 else 2 ^ (8 * (7 - (k.val + 1))) := by decide
  exact this ⟨k, h⟩
theorem place_bd (k : Nat) : 1 ≤ 2 ^ (8 * (7 - k)) ∧ 2 ^ (8 * (7 - k)) ≤ 72057594037927936 := by
  refine ⟨Nat.two_pow_pos _, ?_⟩
  have := Nat.pow_le_pow_right (n := 2) (by omega) (show 8 * (7 - k) ≤ 56 by omega)
  simpa using this
def placeN (k : Nat) : Nat := if k = 8 then 0 else 2 ^ (8 * (7 - k))
set_option maxRecDepth 100000 in
set_option maxHeartbeats 2000000 in
theorem rwrite_real (B : Nat) (v vb vl : Value) (o : List UInt8) (u f a : Nat) (w : World) (ha : a < 16) (hf : f < 18446744073709551616) (ho : o.length ≤ 2097152) (hB : B ≤ w.heap.size) (hO : Own w B v o) :
    Calls Tryd.prog 67 #[v, .agg #[.int .i64 2, .int .u64 u, vb, .float .f64 f, vl], .int .i64 (a + 1 : Nat)] w (RGives B w v (capE (.ok (o ++ floatL f)))) := by
  obtain ⟨i0, hi, hz0, hz1, hz2⟩ := info_parts Tryd.info5
  have HO := Lib.hid hO
  have HL := Lib.hid (headB_len 2 0 (by omega))
  have HC := Lib.hid (fun w => rhead_any 2 0 w (by omega) (by omega))
  have HBT := Lib.hid (rbits_any f)
  have HFL : Hid (floatL f = headB 2 0 ++ be8 (canonB f)) := Lib.hid rfl
  have HXL := Lib.hid (canonB_lt hf)
  generalize canonB f = z at *
  generalize headB 2 0 = hd at *
  generalize hr : o ++ floatL f = r
  have HRR := Lib.hid hr
  clear hr
  generalize hx : capE (.ok r) = x
  have HX := Lib.hid hx
  clear hx hO hf
  go_enter Tryd.func67, Tryd.ntmps67
  go_wp2_with fail
  refine (HC.out _).mono ?_
  rintro e w1 ⟨rfl, hb1⟩
  have hg0 : Grew (w.alloc (.cells #[.int .i64 2, .int .u64 u, vb, .float .f64 f, vl] 53)) w1 v v := Grew.ofBelow hb1
  have hO1 : Own w1 B v o := Own.below (World.ownsRow.alloc HO.out _) hb1
  go_wp2_with (at_builtin; refine wpList_own_src _ rfl _ _ 22 9 rfl B 5 i0 (.int .u8 0) 1 1 Tryd.underlying22 hi hz0 hz1 hz2 rfl (by decide) _ _ _ rfl hO1 _ _ _ rfl (src_string _ _) ?c3 ?c4 ?c5 ?_)
  case c3 => have := HL.out; unfold maxLen; omega
  case c4 => have := HL.out; omega
  case c5 => have := hg0.size; simp at this; omega
  intro v2 w2 hown2 hg2
  have hO2 : Own w2 B v2 (o ++ hd) := own_more' rfl hown2
  have hg3 := hg0.trans hg2
  have hbox := hg3.boxAt HO.out 3 rfl
  have HO2 := Lib.hid hO2
  have HG3 := Lib.hid ((Grew.alloc w v _).trans hg3)
  have hs2 := HG3.out.size
  clear hown2 hg2 hO1 hg0 hb1 hg3 hO2
  go_wp2_with fail
  refine (HBT.out _).mono ?_
  rintro e w' ⟨rfl, rfl⟩
  go_wp2_with fail
  clear hbox
  go_loopw [0, 9, 10] (fun vo p i wr => ∃ k : Nat, k ≤ 8 ∧ i = .int .i64 k ∧ p = .int .u64 (placeN k) ∧ Own wr B vo (o ++ hd ++ (be8 z).take k) ∧ Grew w wr v vo)
    (fun _ _ i _ => 8 - (intOf i).toNat)
  case atStart => exact ⟨0, by omega, rfl, rfl, by simpa using HO2.out, HG3.out⟩
  case round =>
    obtain ⟨k, hk, rfl, rfl, hown, hgr⟩ := hrel
    have hsz := hgr.size
    have HR := Lib.hid hgr
    clear hgr HO2 HG3 hs2
    by_cases h8 : k < 8
    · have HT := Lib.hid (be8_take z k h8)
      have hp : placeN k = 2 ^ (8 * (7 - k)) := by unfold placeN; rw [if_neg (by omega)]
      have hpd : 2 ^ (8 * (7 - k)) / 256 = placeN (k + 1) := by
        rw [place_div k h8]; unfold placeN; split
        · rw [if_pos (by omega)]
        · rw [if_neg (by omega)]
      have HPD := Lib.hid hpd
      have HPB := Lib.hid (place_bd k)
      rw [hp]
      clear hp hpd
      generalize 2 ^ (8 * (7 - k)) = pl at *
      have hp1 : 1 ≤ pl := HPB.out.1
      have hp0 : ((pl : Int) == 0) = false := by rw [beq_eq_false_iff_ne]; omega
      have hlk : (o ++ hd ++ (be8 z).take k).length ≤ 2097200 := by
        have := HL.out
        simp only [List.length_append, List.length_take]; omega
      generalize hl2 : o ++ hd ++ (be8 z).take k = l2 at *
      have HL2 := Lib.hid hl2
      clear hl2
      have hzl : z / pl < 18446744073709551616 := by
        have := Nat.div_le_self z pl
        have := HXL.out
        omega
      generalize hzd : z / pl = d at *
      have e : (z : Int) / (pl : Int) = (d : Int) := by rw [← hzd, Int.natCast_ediv]
      have hw1 : IntKind.u64.wrap ((z : Int) / (pl : Int)) = (d : Int) := by rw [e, IntKind.wrap_u64]; omega
      clear hzd e
      go_wp2_with (at_builtin; refine wpList_own_src _ rfl _ _ 22 22 rfl B 5 i0 (.int .u8 0) 1 1 Tryd.underlying22 hi hz0 hz1 hz2 rfl (by decide) _ _ _ rfl (hown.alloc _) _ 1 [.int .u8 ((d : Int) % 256)] rfl (src_one _ _) ?c3 ?c4 ?c5 ?_)
      case c3 => unfold maxLen; omega
      case c4 => omega
      case c5 => simp; omega
      intro v3 w3 hown' hgrow
      have HG := Lib.hid (HR.out.trans ((Grew.alloc _ _ _).trans hgrow))
      have HV := Lib.hid (own_push (d % 256) (by omega) (by omega) hown')
      clear hown' hown hgrow
      go_wp2_with fail
      go_roundw
      case rel => exact ⟨k + 1, by omega, by go_num, congrArg (Value.int .u64) (by have := HPB.out.2; rw [← HPD.out, IntKind.wrap_u64]; omega), by rw [HT.out, ← List.append_assoc, HL2.out]; exact HV.out, HG.out⟩
      case measure => simp [intOf]; omega
    · have hk8 : k = 8 := by omega
      subst hk8
      rw [be8_all, List.append_assoc, ← HFL.out, HRR.out] at hown
      have hgr := HR.out
      have hrl : r.length ≤ 4194304 := by have hq := congrArg List.length HRR.out; rw [HFL.out] at hq; have := HL.out; unfold be8 at hq; simp at hq; omega
      obtain ⟨sa, sc, rfl⟩ := own_slice hown
      have HV := Lib.hid hown
      have HG := Lib.hid hgr
      clear hown hgr
      by_cases hlong : 1048576 < r.length
      · have hx := HX.out.symm.trans (cap_long hlong)
        clear HX
        subst hx
        go_wp2_with fail
        go_ret2
        exact ⟨rfl, HG.out.below HO.out hB, HG.out.size⟩
      · have hx := HX.out.symm.trans (cap_ok hlong)
        clear HX
        subst hx
        go_wp2_with fail
        go_ret2
        exact ⟨_, rfl, HV.out, HG.out⟩
end Go.Proofs.YtdolonkeanlaoaaDoor
namespace Go.Proofs.YtdolonkeanlaoaaDoor
open Go.RowKit

theorem fold_err {n : Nat} (h : ∀ {o x c}, encV n o x = .error c → c ≠ 0) : ∀ (l : List Val) (o : List UInt8) (c : Int), foldE (encV n) l o = .error c → c ≠ 0
  | [], o, c, e => by simp only [foldE] at e; cases e
  | x :: l, o, c, e => by
    simp only [foldE] at e
    cases hy : encV n o x with
    | ok q => rw [hy] at e; exact fold_err h l q c e
    | error d => rw [hy] at e; injection e with e; subst e; exact h hy
theorem enc_err : ∀ {n : Nat} {o : List UInt8} {x : Val} {c : Int}, encV n o x = .error c → c ≠ 0
  | 0, _, _, _, h => by simp only [encV] at h; injection h with h; subst h; decide
  | n + 1, o, .mk k u b f l, c, h => by
    simp only [encV] at h
    have hcap : ∀ {r : Except Int (List UInt8)}, (∀ d, r = .error d → d ≠ 0) → capE r = .error c → c ≠ 0 := by
      intro r hr e
      cases r with
      | error d => simp only [capE] at e; injection e with e; subst e; exact hr d rfl
      | ok q =>
        simp only [capE] at e
        split at e
        · injection e with e; subst e; decide
        · cases e
    refine hcap (fun d hd => ?_) h
    split at hd
    · cases hd
    split at hd
    · split at hd
      · injection hd with hd; subst hd; decide
      · cases hd
    split at hd
    · cases hd
    split at hd
    · exact fold_err (fun e => enc_err e) l _ d hd
    · injection hd with hd; subst hd; decide
set_option maxRecDepth 100000 in
set_option maxHeartbeats 2000000 in
theorem rwrite_list (n : Nat) (hIH : RWriteOk n) (B : Nat) (v vb vl : Value) (o : List UInt8) (l : List Val) (u f a : Nat) (w : World) (ha : a + (n + 1) = 16) (hl : l.length ≤ 1048576) (ho : o.length ≤ 1048576 + 16 * a) (hB : B ≤ w.heap.size) (hO : Own w B v o)
    (hI : ListIn B w (Reads B w n) vl l) :
    Calls Tryd.prog 67 #[v, .agg #[.int .i64 3, .int .u64 u, vb, .float .f64 f, vl], .int .i64 (a + 1 : Nat)] w (RGives B w v (capE (foldE (encV n) l (o ++ headB 3 l.length)))) := by
  obtain ⟨i0, hi, hz0, hz1, hz2⟩ := info_parts Tryd.info5
  obtain ⟨sa, sc, rfl⟩ := hI.shape
  have HO := Lib.hid hO
  have HI := Lib.hid hI
  have HL := Lib.hid (headB_len 3 l.length (by omega))
  have HC := Lib.hid (fun w => rhead_any 3 l.length w (by omega) (by omega))
  have HH := Lib.hid hIH
  generalize headB 3 l.length = hd at *
  generalize hr : o ++ hd = r
  have HRR := Lib.hid hr
  generalize hx : capE (foldE (encV n) l r) = x
  have HX := Lib.hid hx
  clear hO hI hIH hr hx
  go_enter Tryd.func67, Tryd.ntmps67
  go_wp2_with fail
  refine (HC.out _).mono ?_
  rintro e w1 ⟨rfl, hb1⟩
  have hg0 : Grew (w.alloc (.cells #[.int .i64 3, .int .u64 u, vb, .float .f64 f, .slice sa l.length sc] 53)) w1 v v := Grew.ofBelow hb1
  have hO1 : Own w1 B v o := Own.below (World.ownsRow.alloc HO.out _) hb1
  go_wp2_with (at_builtin; refine wpList_own_src _ rfl _ _ 22 9 rfl B 5 i0 (.int .u8 0) 1 1 Tryd.underlying22 hi hz0 hz1 hz2 rfl (by decide) _ _ _ rfl hO1 _ _ _ rfl (src_string _ _) ?c3 ?c4 ?c5 ?_)
  case c3 => have := HL.out; unfold maxLen; omega
  case c4 => have := HL.out; omega
  case c5 => have := hg0.size; simp at this; omega
  intro v2 w2 hown2 hg2
  have hrl : r.length ≤ 1048576 + 16 * (a + 1) := by have hq := congrArg List.length HRR.out; have := HL.out; simp only [List.length_append] at hq; omega
  have HV : Hid (Own w2 B v2 r) := Lib.hid (by rw [← HRR.out]; exact own_more' rfl hown2)
  have HG := Lib.hid (hg0.trans hg2)
  clear hown2 hg2 hO1 hg0 hb1
  go_wp2_with fail
  go_loopw [0, 11] (fun vo i wr => ∃ (k : Nat) (q : List UInt8), k ≤ l.length ∧ i = .int .i64 k ∧ q.length ≤ 1048576 + 16 * (a + 1) ∧ Own wr B vo q ∧ Grew (w.alloc (.cells #[.int .i64 3, .int .u64 u, vb, .float .f64 f, .slice sa l.length sc] 53)) wr v vo ∧ foldE (encV n) (l.drop k) q = foldE (encV n) l r)
    (fun _ i _ => l.length - (intOf i).toNat)
  case atStart => exact ⟨0, r, Nat.zero_le _, rfl, hrl, HV.out, HG.out, rfl⟩
  case round =>
    obtain ⟨k, q, hk, rfl, hq, hown, hbr, hfo⟩ := hrel
    have hbox := hbr.boxAt HO.out 4 rfl
    have hbr2 := (Grew.alloc w v _).trans hbr
    have HB := Lib.hid hbr
    have HR := Lib.hid hbr2
    have HF := Lib.hid hfo
    have hsz := hbr2.size
    have hbw := hbr2.below HO.out hB
    clear hbr hbr2 hfo HV HG
    by_cases hlt : k < l.length
    · rcases HI.out with ⟨_, _, _, h0⟩ | ⟨g, o2, cap, hv, hg, hc⟩
      · rw [h0] at hlt; simp at hlt
      · obtain ⟨x', hx'⟩ : ∃ x', l[k]? = some x' := ⟨_, List.getElem?_eq_getElem hlt⟩
        have HXK := Lib.hid hx'
        obtain ⟨c0, c1, c2, c3, c4, e0, e1, e2, e3, e4, hR⟩ := hc k x' hx'
        injection hv with hv1 _ hv2
        subst hv1 hv2
        have d0 := (hbw.cell (p := ⟨g, o2 + k * 5, none⟩) hg).trans e0
        have d1 := (hbw.cell (p := ⟨g, o2 + k * 5 + 1, none⟩) hg).trans e1
        have d2 := (hbw.cell (p := ⟨g, o2 + k * 5 + 2, none⟩) hg).trans e2
        have d3 := (hbw.cell (p := ⟨g, o2 + k * 5 + 3, none⟩) hg).trans e3
        have d4 := (hbw.cell (p := ⟨g, o2 + k * 5 + 4, none⟩) hg).trans e4
        obtain ⟨k', u', b', f', l'⟩ := x'
        obtain ⟨a1, n1, p1, a2, n2, p2, hsh⟩ := hR.shape
        have hsh2 : [c0, c1, c2, c3, c4] = [.int .i64 k', .int .u64 u', .slice a1 n1 p1, .float .f64 f', .slice a2 n2 p2] := by
          injection hsh with hsh; injection hsh
        injection hsh2 with s0 hsh2
        injection hsh2 with s1 hsh2
        injection hsh2 with s2 hsh2
        injection hsh2 with s3 hsh2
        injection hsh2 with s4 hsh2
        subst s0 s1 s2 s3 s4
        have HOw := Lib.hid hown
        have HBW := Lib.hid hbw
        have hwc := HH.out B u0 _ (.mk k' u' b' f' l') q (a + 1) wr (by omega) hq (by omega) hown (Reads.below hbw n _ _ hR)
        have e : ((a + 1 + 1 : Nat) : Int) = (a : Int) + 1 + 1 := by omega
        rw [e] at hwc
        have HC2 := Lib.hid hwc
        have hdk : l.drop k = Val.mk k' u' b' f' l' :: l.drop (k + 1) := by
          rw [List.drop_eq_getElem_cons hlt]
          have := HXK.out
          rw [List.getElem?_eq_getElem hlt] at this
          injection this with this
          rw [this]
        have hfk := HF.out
        rw [hdk] at hfk
        simp only [foldE] at hfk
        clear hwc e hdk e0 e1 e2 e3 e4 hR hown hbw hc hsh hsh2 hx'
        cases hy : encV n q (.mk k' u' b' f' l') with
        | error c =>
          have hc0 : (c == 0) = false := by rw [beq_eq_false_iff_ne]; exact enc_err hy
          rw [hy] at hfk HC2
          have hx := HX.out
          rw [← hfk] at hx
          simp only [capE] at hx
          clear HX HF hfk hy
          subst hx
          go_wp2_with fail
          refine HC2.out.mono ?_
          rintro e w2 ⟨rfl, hb2, hs2⟩
          go_wp2_with fail
          go_ret2
          have hb3 := HBW.out.trans hb2
          exact ⟨rfl, hb3, hb3.size⟩
        | ok q' =>
          rw [hy] at hfk HC2
          have HFK := Lib.hid hfk
          have hq2 := enc_len hy
          clear hfk hy HF
          go_wp2_with fail
          refine HC2.out.mono ?_
          rintro e w2 ⟨v2, rfl, hown2, hg2⟩
          have HG2 := Lib.hid (HB.out.trans hg2)
          have HO2 := Lib.hid hown2
          clear hg2 hown2
          go_wp2_with fail
          go_roundw
          case rel => exact ⟨k + 1, q', by omega, by go_num, by omega, HO2.out, HG2.out, HFK.out⟩
          case measure => simp [intOf]; omega
    · have hd : l.drop k = [] := List.drop_eq_nil_of_le (by omega)
      have hx := HX.out
      rw [← HF.out, hd] at hx
      simp only [foldE] at hx
      clear HX HF hd
      obtain ⟨sa2, sc2, rfl⟩ := own_slice hown
      have HOw := Lib.hid hown
      clear hown hbw
      by_cases hlong : 1048576 < q.length
      · rw [cap_long hlong] at hx
        subst hx
        go_wp2_with fail
        go_ret2
        exact ⟨rfl, HR.out.below HO.out hB, HR.out.size⟩
      · rw [cap_ok hlong] at hx
        subst hx
        go_wp2_with fail
        go_ret2
        exact ⟨_, rfl, HOw.out, HR.out⟩
theorem rwrite_ok : ∀ n, RWriteOk n
  | 0 => rwrite_deep
  | n + 1 => by
    intro B v xv x o a w ha ho hB hO hR
    obtain ⟨k, u, b, f, l⟩ := x
    obtain ⟨vb, vl, rfl, hu, hf, hb, hl, hI, hL⟩ := hR
    by_cases h0 : k = 0
    · subst h0
      rw [enc_num]; exact rwrite_num B v _ _ o u f a w (by omega) hu (by omega) hB hO
    by_cases h1 : k = 1
    · subst h1
      rw [enc_bytes, if_neg (by omega)]; exact rwrite_bytes B v _ _ o b u f a w (by omega) hb (by omega) hB hO hI
    by_cases h2 : k = 2
    · subst h2
      rw [enc_real]; exact rwrite_real B v _ _ o u f a w (by omega) hf (by omega) hB hO
    by_cases h3 : k = 3
    · subst h3
      rw [enc_list]; exact rwrite_list n (rwrite_ok n) B v _ vl o l u f a w ha hl ho hB hO hL
    · rw [enc_other _ _ _ _ _ _ _ h0 h1 h2 h3]
      exact rwrite_other B v vb vl k u f a w (by omega) hB (by simpa using h0) (by simpa using h1) (by simpa using h2) (by simpa using h3)
end Go.Proofs.YtdolonkeanlaoaaDoor
namespace Go.Proofs.YtdolonkeanlaoaaDoor
open Go.RowKit

theorem nil_string (w : World) : (convert 22 9 (.slice none 0 0)).run Tryd.prog w = .ok (.string ⟨#[]⟩) w := by
  rw [run_convert_bytes_string w 22 9 5 none 0 0 Tryd.underlying22 Tryd.underlying5 Tryd.underlying9]
  rfl
theorem bytes_string {B : Nat} {w : World} {v : Value} {l : List UInt8} (h : BytesIn B w v l) : (convert 22 9 v).run Tryd.prog w = .ok (.string ⟨l.toArray⟩) w := by
  rcases h with ⟨rfl, rfl⟩ | ⟨a, cap, rfl, _, hc⟩
  · exact nil_string w
  · refine run_convert_bytes_back (P := Tryd.prog) w 22 9 5 a cap l Tryd.underlying22 Tryd.underlying5 Tryd.underlying9 (fun j hj => ?_)
    exact hc j _ (by unfold bv; rw [List.getElem?_map, List.getElem?_eq_getElem hj]; rfl)
def REncAnswers (w : World) (r : Except Int (List UInt8)) (e : Ending) (w' : World) : Prop :=
  match r with
  | .ok o => e = .returned (.tuple #[.string ⟨o.toArray⟩, .int .i64 0]) ∧ Below w.heap.size w w'
  | .error c => e = .returned (.tuple #[.string ⟨#[]⟩, .int .i64 c]) ∧ Below w.heap.size w w'
set_option maxRecDepth 100000 in
set_option maxHeartbeats 800000 in
theorem rencode_any (xv : Value) (x : Val) (w : World) (hR : Reads w.heap.size w 16 xv x) : Calls Tryd.prog 45 #[xv] w (REncAnswers w (encR x)) := by
  obtain ⟨k, u, b, f, l⟩ := x
  obtain ⟨a1, n1, p1, a2, n2, p2, rfl⟩ := hR.shape
  have hB2 : Below w.heap.size w ((w.alloc (.cells #[.int .i64 k, .int .u64 u, .slice a1 n1 p1, .float .f64 f, .slice a2 n2 p2] 53)).alloc (.cells #[] 5)) :=
    ((Below.refl _ _).alloc (Nat.le_refl _) _).alloc (by simp) _
  have hO : Own ((w.alloc (.cells #[.int .i64 k, .int .u64 u, .slice a1 n1 p1, .float .f64 f, .slice a2 n2 p2] 53)).alloc (.cells #[] 5)) w.heap.size (.slice (some ⟨w.heap.size + 1, 0, none⟩) 0 0) [] := by
    refine ⟨rfl, Or.inr ⟨w.heap.size + 1, 0, #[], rfl, by omega, ?_, Nat.le_refl _, by unfold maxLen; omega, rfl, rfl⟩⟩
    show ((w.heap.push _).push _)[w.heap.size + 1]? = _
    rw [Array.getElem?_push, if_pos (by simp)]
  have hw := rwrite_ok 16 w.heap.size _ _ _ [] 0 _ (by omega) (by simp) hB2.size hO (Reads.below hB2 16 _ _ hR)
  rw [show encV 16 [] (.mk k u b f l) = encR (.mk k u b f l) from rfl] at hw
  have HW := Lib.hid hw
  have HB := Lib.hid hB2
  have HO := Lib.hid hO
  have hst := run_storeF
  generalize encR (.mk k u b f l) = r at *
  clear hw hB2 hO hR
  cases r with
  | error c =>
    have hn := nil_string
    go_enter Tryd.func45, Tryd.ntmps45
    go_wp2_with fail
    refine HW.out.mono ?_
    rintro e w1 ⟨rfl, hb, hs⟩
    go_wp2_with fail
    go_ret2
    exact ⟨rfl, HB.out.trans hb⟩
  | ok o =>
    go_enter Tryd.func45, Tryd.ntmps45
    go_wp2_with fail
    refine HW.out.mono ?_
    rintro e w1 ⟨v', rfl, hown, hgr⟩
    have hb := HB.out.trans (hgr.below HO.out HB.out.size)
    · have hcv := bytes_string (own_bytes hown (Nat.le_refl _))
      obtain ⟨sa, sc, rfl⟩ := own_slice hown
      have HBB := Lib.hid hb
      clear hb hown hgr
      go_wp2_with fail
      go_ret2
      exact ⟨rfl, HBB.out⟩
end Go.Proofs.YtdolonkeanlaoaaDoor
