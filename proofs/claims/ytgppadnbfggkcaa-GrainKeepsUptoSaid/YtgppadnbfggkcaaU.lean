/- Contracts: Decode. -/
import Derived.Test.YtgppadnbfggkcaaT
namespace Go.Proofs.Ytgppadnbfggkcaa
open Go.RowKit

def DecAnswers (w : World) (r : Except Int Val) (e : Ending) (w' : World) : Prop :=
  match r with
  | .ok x => ∃ v, e = .returned (.tuple #[v, .int .i64 0]) ∧ ReadsS (fun k => w.heap.size ≤ k ∧ k < w'.heap.size) w' 16 v x ∧ Below w.heap.size w w'
  | .error c => e = .returned (.tuple #[.agg #[.int .i64 0, .int .u64 0, .slice none 0 0, .float .f64 0, .slice none 0 0], .int .i64 c]) ∧ Below w.heap.size w w'
set_option maxHeartbeats 400000 in
theorem dec_idle (p q : Addr) (w : World) :
    CallsD Try.prog 24 #[.pointer (some p), .pointer (some q)] .returning w fun e u' w' => e = .returned (.tuple #[]) ∧ u' = .returning ∧ w' = w := by
  refine callsD_of_wpS Try.func24 rfl fun c₀ cs hu => ?_
  apply wpS_seq
  apply wpS_region
  simp [wpOpsS, go_sem, recoverD, hu, Try.ntmps24, Exit.thenS]
  refine wpS_of_wp ?_
  go_wp2
  cases c₀
  simp_all [bodyPostS, results, Try.results24]
theorem two_blocks (w : World) (cs : Array Value) (v : Value) (t t1 : TypeId) :
    ((w.alloc (.cells cs t)).alloc (.cells #[v] t1)).heap[w.heap.size]? = some (.cells cs t (0, 0)) ∧ ((w.alloc (.cells cs t)).alloc (.cells #[v] t1)).heap[w.heap.size + 1]? = some (.cells #[v] t1 (0, 0)) := by
  refine ⟨(Below.heap_alloc _ _ _ (by simp)).trans (new_five w _ _), ?_⟩
  have := new_five (w.alloc (.cells cs t)) #[v] t1
  simpa using this
set_option maxRecDepth 100000 in
set_option maxHeartbeats 1600000 in
theorem dec_panicking (b b2 : Nat) (hne : b ≠ b2) (c : Int) (x : Value) (c0 c1 c2 c3 c4 : Value) (t t2 : TypeId) (older : List PanicEntry) (w : World) (hp : w.heap[b]? = some (.cells #[c0, c1, c2, c3, c4] t (0, 0))) (hq : w.heap[b2]? = some (.cells #[x] t2 (0, 0))) :
    CallsD Try.prog 24 #[.pointer (some ⟨b, 0, none⟩), .pointer (some ⟨b2, 0, none⟩)] (.panicking ({ v := .iface 29 (.int .i64 c), recovered := false } :: older)) w fun e u' w' =>
      e = .returned (.tuple #[]) ∧ u' = .panicking ({ v := .iface 29 (.int .i64 c), recovered := true } :: older) ∧ w' = (set5 w b (.int .i64 0) (.int .u64 0) (.slice none 0 0) (.float .f64 0) (.slice none 0 0)).setCell ⟨b2, 0, none⟩ (.int .i64 c) := by
  have hst := run_storeF
  refine callsD_of_wpS Try.func24 rfl fun c₀ cs hu => ?_
  have hq5 : (set5 w b (.int .i64 0) (.int .u64 0) (.slice none 0 0) (.float .f64 0) (.slice none 0 0)).heap[b2]? = some (.cells #[x] t2 (0, 0)) := (set5_block _ _ _ _ _ _ _ _ (Ne.symm hne)).trans hq
  have HQ := Lib.hid (cell_of_one hq5)
  have HZQ := Lib.hid (free_of_one hq5)
  have HP := Lib.hid (five_cells hp)
  clear hp hq hq5
  apply wpS_seq
  apply wpS_region
  simp [wpOpsS, go_sem, recoverD, hu, Try.ntmps24, Exit.thenS]
  have HU := Lib.hid hu
  clear hu
  rw [show (#[Value.pointer (some ⟨b, 0, none⟩), Value.pointer (some ⟨b2, 0, none⟩)] ++ ((Array.replicate 7 undef).setIfInBounds 1 (Value.iface 29 (Value.int IntKind.i64 c))).setIfInBounds 0 (Value.iface 29 (Value.int IntKind.i64 c)) : Array Value)
    = #[.pointer (some ⟨b, 0, none⟩), .pointer (some ⟨b2, 0, none⟩), .iface 29 (.int .i64 c), .iface 29 (.int .i64 c), undef, undef, undef, undef, undef] from rfl]
  generalize hc1 : { c₀ with mode := FrameMode.panicking ({ v := Value.iface 29 (Value.int IntKind.i64 c), recovered := true, goexit := false } :: older) } = c1'
  have HC := Lib.hid hc1
  clear hc1
  refine wpS_of_wp ?_
  generalize hq : (fun e a' w' => bodyPostS Try.prog Try.f24 c₀ cs (fun e u' w' =>
      e = Ending.returned (Value.tuple #[]) ∧
        u' = FrameMode.panicking ({ v := Value.iface 29 (Value.int IntKind.i64 c), recovered := true } :: older) ∧
          w' = (set5 w b (.int .i64 0) (.int .u64 0) (.slice none 0 0) (.float .f64 0) (.slice none 0 0)).setCell ⟨b2, 0, none⟩ (Value.int IntKind.i64 c)) e a' (c1' :: cs) w') = Q
  have HQQ := Lib.hid hq
  clear hq
  obtain ⟨⟨p0, p1, p2, p3, p4⟩, z0, z1, z2, z3, z4⟩ := HP.out
  have hq := HQ.out
  have hzq := HZQ.out
  unfold set5 at hq hzq
  go_wp2_with fail
  refine (code_any c _).mono ?_
  rintro e w' ⟨rfl, rfl⟩
  go_wp2
  have e := HQQ.out
  subst e
  have e1 := HC.out
  subst e1
  cases c₀
  simp [bodyPostS, results, Try.results24, set5]
set_option maxRecDepth 100000 in
set_option maxHeartbeats 800000 in
theorem decode_bad (S : Nat → Prop) (v : Value) (l : List UInt8) (c : Int) (w : World) (hS : ∀ k, S k → k < w.heap.size) (hb : BytesC S w v l) (hc : decR l = .error c) :
    Calls Try.prog 12 #[v] w (DecAnswers w (.error c)) := by
  have hmf : ∀ (fn : Fn) (first cap : Array Value) (w : World), (Instr.makeFunc fn first cap).run Try.prog w = .ok (.func fn first cap) w := fun _ _ _ _ => rfl
  have hst := run_storeF
  have HB : Hid (Below w.heap.size w ((w.alloc (.cells #[.int .i64 0, .int .u64 0, .slice none 0 0, .float .f64 0, .slice none 0 0] 27)).alloc (.cells #[.int .i64 0] 29))) := Lib.hid (((Below.refl _ _).alloc (Nat.le_refl _) _).alloc (by simp) _)
  have hw := read_any S v l ((w.alloc (.cells #[.int .i64 0, .int .u64 0, .slice none 0 0, .float .f64 0, .slice none 0 0] 27)).alloc (.cells #[.int .i64 0] 29)) (fun k hk => by have := hS k hk; simp; omega) ((hb.alloc hS _).alloc (fun k hk => by have := hS k hk; simp; omega) _)
  rw [hc] at hw
  obtain ⟨sa, sc, rfl⟩ := hb.shape
  have HW := Lib.hid hw
  have HT := Lib.hid (two_blocks w #[.int .i64 0, .int .u64 0, .slice none 0 0, .float .f64 0, .slice none 0 0] (.int .i64 0) 27 29)
  clear hw hc hb
  go_enter_defers Try.func12, Try.ntmps12
  go_wp2_with fail
  refine HW.out.mono ?_
  rintro e w1 ⟨rfl, hb, hs⟩
  go_wp2
  obtain ⟨t0, t1⟩ := HT.out
  have k0 := (hb.block w.heap.size (by simp; omega)).trans t0
  have k1 := (hb.block (w.heap.size + 1) (by simp)).trans t1
  refine leaves_cons (f := 24) (args := #[.pointer (some ⟨w.heap.size, 0, none⟩), .pointer (some ⟨w.heap.size + 1, 0, none⟩)]) (by simp) (by simp [go_sem]) ?_
  refine (dec_panicking w.heap.size (w.heap.size + 1) (by omega) c _ _ _ _ _ _ _ _ [] _ k0 k1).mono ?_
  rintro e u' w'' ⟨rfl, rfl, rfl⟩
  obtain ⟨⟨p0, p1, p2, p3, p4⟩, _⟩ := five_cells k0
  obtain ⟨r0, r1, r2, r3, r4⟩ := set5_cells p0 p1 p2 p3 p4 (.int .i64 0) (.int .u64 0) (.slice none 0 0) (.float .f64 0) (.slice none 0 0)
  have hb3 := HB.out.trans (hb.mono HB.out.size)
  have hb4 := (below_of (set5_grown (b := w.heap.size) (row := none) (of_below hb3) (Nat.le_refl _) (.int .i64 0) (.int .u64 0) (.slice none 0 0) (.float .f64 0) (.slice none 0 0))).setCell (p := ⟨w.heap.size + 1, 0, none⟩) (by simp) (.int .i64 c)
  have k2 : (set5 w1 w.heap.size (.int .i64 0) (.int .u64 0) (.slice none 0 0) (.float .f64 0) (.slice none 0 0)).heap[w.heap.size + 1]? = _ := (set5_block _ _ _ _ _ _ _ _ (by omega)).trans k1
  have q0 := cell_of_one k2
  generalize set5 w1 w.heap.size (.int .i64 0) (.int .u64 0) (.slice none 0 0) (.float .f64 0) (.slice none 0 0) = w3 at *
  simp [Leaves, settle, results, Try.results12, go_sem, r0, r1, r2, r3, r4, q0, DecAnswers]
  exact hb4
set_option maxRecDepth 100000 in
set_option maxHeartbeats 800000 in
theorem decode_fit (S : Nat → Prop) (v : Value) (l : List UInt8) (x : Val) (w : World) (hS : ∀ k, S k → k < w.heap.size) (hb : BytesC S w v l) (hc : decR l = .ok x) :
    Calls Try.prog 12 #[v] w (DecAnswers w (.ok x)) := by
  have hmf : ∀ (fn : Fn) (first cap : Array Value) (w : World), (Instr.makeFunc fn first cap).run Try.prog w = .ok (.func fn first cap) w := fun _ _ _ _ => rfl
  have hst := run_storeF
  have HB : Hid (Below w.heap.size w ((w.alloc (.cells #[.int .i64 0, .int .u64 0, .slice none 0 0, .float .f64 0, .slice none 0 0] 27)).alloc (.cells #[.int .i64 0] 29))) := Lib.hid (((Below.refl _ _).alloc (Nat.le_refl _) _).alloc (by simp) _)
  have hw := read_any S v l ((w.alloc (.cells #[.int .i64 0, .int .u64 0, .slice none 0 0, .float .f64 0, .slice none 0 0] 27)).alloc (.cells #[.int .i64 0] 29)) (fun k hk => by have := hS k hk; simp; omega) ((hb.alloc hS _).alloc (fun k hk => by have := hS k hk; simp; omega) _)
  rw [hc] at hw
  obtain ⟨sa, sc, rfl⟩ := hb.shape
  have HW := Lib.hid hw
  have HT := Lib.hid (two_blocks w #[.int .i64 0, .int .u64 0, .slice none 0 0, .float .f64 0, .slice none 0 0] (.int .i64 0) 27 29)
  clear hw hc hb
  go_enter_defers Try.func12, Try.ntmps12
  go_wp2_with fail
  refine HW.out.mono ?_
  rintro e w1 ⟨v1, rfl, hx, hb⟩
  obtain ⟨k', u', b', f', l'⟩ := x
  obtain ⟨a1, n1, p1, a2, n2, p2, rfl⟩ := hx.shape
  obtain ⟨t0, t1⟩ := HT.out
  have k0 := (hb.block w.heap.size (by simp; omega)).trans t0
  have k1 := (hb.block (w.heap.size + 1) (by simp)).trans t1
  obtain ⟨⟨c0, c1, c2, c3, c4⟩, z0, z1, z2, z3, z4⟩ := five_cells k0
  have k2 : (set5 w1 w.heap.size (.int .i64 k') (.int .u64 u') (.slice a1 n1 p1) (.float .f64 f') (.slice a2 n2 p2)).heap[w.heap.size + 1]? = _ := (set5_block _ _ _ _ _ _ _ _ (by omega)).trans k1
  have q0 := cell_of_one k2
  have qz := free_of_one k2
  unfold set5 at q0 qz
  have R := Lib.hid (set5_cells c0 c1 c2 c3 c4 (.int .i64 k') (.int .u64 u') (.slice a1 n1 p1) (.float .f64 f') (.slice a2 n2 p2))
  have hb3 := HB.out.trans (hb.mono HB.out.size)
  have hs1 := hb.size
  simp at hs1
  have hb4 := (below_of (set5_grown (b := w.heap.size) (row := none) (of_below hb3) (Nat.le_refl _) (.int .i64 k') (.int .u64 u') (.slice a1 n1 p1) (.float .f64 f') (.slice a2 n2 p2))).setCell (p := ⟨w.heap.size + 1, 0, none⟩) (by simp) (.int .i64 0)
  have hx4 := ReadsS.kept (S' := fun k => w.heap.size ≤ k ∧ k < w1.heap.size) (w' := (set5 w1 w.heap.size (.int .i64 k') (.int .u64 u') (.slice a1 n1 p1) (.float .f64 f') (.slice a2 n2 p2)).setCell ⟨w.heap.size + 1, 0, none⟩ (.int .i64 0))
    (fun k hk => by simp at hk; exact ⟨⟨by omega, hk.2⟩, (Below.heap_setCell _ _ _ _ (by simp; omega)).trans (set5_block _ _ _ _ _ _ _ _ (by omega))⟩) 16 _ _ hx
  have hs4 : ∀ v0 v1 v2 v3 v4 u, ((set5 w1 w.heap.size v0 v1 v2 v3 v4).setCell ⟨w.heap.size + 1, 0, none⟩ u).heap.size = w1.heap.size := by
    intro v0 v1 v2 v3 v4 u; simp [set5_size]
  rw [← hs4 (.int .i64 k') (.int .u64 u') (.slice a1 n1 p1) (.float .f64 f') (.slice a2 n2 p2) (.int .i64 0)] at hx4
  have B4 := Lib.hid hb4
  have X4 := Lib.hid hx4
  have K2 := Lib.hid (cell_of_one k2)
  clear k0 k1 k2 hx4 hb4 hb3 hb hs4 HW HT HB t0 t1 hx
  go_wp2
  refine leaves_cons (f := 24) (args := #[.pointer (some ⟨w.heap.size, 0, none⟩), .pointer (some ⟨w.heap.size + 1, 0, none⟩)]) (by simp) (by simp [go_sem]) ?_
  refine (dec_idle ⟨w.heap.size, 0, none⟩ ⟨w.heap.size + 1, 0, none⟩ _).mono ?_
  rintro e u' w'' ⟨rfl, rfl, rfl⟩
  have b4 := B4.out
  have x4 := X4.out
  obtain ⟨r0, r1, r2, r3, r4⟩ := R.out
  have q2 := K2.out
  clear B4 X4 R K2 q0 qz
  rw [show (((((w1.setCell ⟨w.heap.size, 0, none⟩ (.int .i64 k')).setCell ⟨w.heap.size, 1, none⟩ (.int .u64 u')).setCell ⟨w.heap.size, 2, none⟩ (.slice a1 n1 p1)).setCell ⟨w.heap.size, 3, none⟩ (.float .f64 f')).setCell ⟨w.heap.size, 4, none⟩ (.slice a2 n2 p2)) =
    set5 w1 w.heap.size (.int .i64 k') (.int .u64 u') (.slice a1 n1 p1) (.float .f64 f') (.slice a2 n2 p2) from rfl]
  generalize set5 w1 w.heap.size (.int .i64 k') (.int .u64 u') (.slice a1 n1 p1) (.float .f64 f') (.slice a2 n2 p2) = w3 at *
  simp [Leaves, settle, results, Try.results12, go_sem, r0, r1, r2, r3, r4, q2, DecAnswers]
  exact ⟨by simpa using x4, b4⟩
theorem decode_any (S : Nat → Prop) (v : Value) (l : List UInt8) (w : World) (hS : ∀ k, S k → k < w.heap.size) (hb : BytesC S w v l) : Calls Try.prog 12 #[v] w (DecAnswers w (decR l)) := by
  cases h : decR l with
  | ok x => exact decode_fit S v l x w hS hb h
  | error c => exact decode_bad S v l c w hS hb h
end Go.Proofs.Ytgppadnbfggkcaa
