/- Contracts: read, and Decode. Contracts: Decode. The walk of the reference's head. The walk of the reference's value: all but lists. -/
import Derived.Test.YtdolonkeanlaoaaDoorGrLS
import Derived.Test.YtdolonkeanlaoaaDoorGrFK
import Derived.Deep.Cut
namespace Go.Proofs.YtdolonkeanlaoaaDoor
open Go.RowKit

/-- What Decode answers. -/
def decR (l : List UInt8) : Except Int Val :=
  if 1048576 < l.length then .error 2 else match valD 16 l with
    | .ok (x, []) => .ok x
    | .ok (_, _ :: _) => .error 23
    | .error c => .error c
def ReadGives (w : World) (r : Except Int Val) (e : Ending) (w' : World) : Prop :=
  match r with
  | .ok x => ∃ v, e = .returned v ∧ ReadsS (fun k => w.heap.size ≤ k ∧ k < w'.heap.size) w' 16 v x ∧ Below w.heap.size w w'
  | .error c => Panics w.heap.size w c e w'
theorem rest_start {S : Nat → Prop} {w : World} {v : Value} {l : List UInt8} {o : Obj} (hS : ∀ k, S k → k < w.heap.size) (h : BytesC S w v l) :
    RestAt S (w.heap.size + 1) ((w.alloc o).alloc (.cells #[v] 119)) l := by
  have hb : ((w.alloc o).alloc (.cells #[v] 119)).heap[w.heap.size + 1]? = some (.cells #[v] 119 (0, 0)) := by
    have := new_five (w.alloc o) #[v] 119
    simpa using this
  refine ⟨v, cell_of_one hb, free_of_one hb, (h.alloc hS _).alloc (fun k hk => by have := hS k hk; simp; omega) _, fun hk => by have := hS _ hk; omega, fun k hk => by have := hS k hk; simp; omega, by simp⟩
set_option maxRecDepth 100000 in
set_option maxHeartbeats 1000000 in
theorem read_long (S : Nat → Prop) (v : Value) (l : List UInt8) (w : World) (hb : BytesC S w v l) (hl : 1048576 < l.length) :
    Calls Tryd.prog 63 #[v] w (Panics w.heap.size w 2) := by
  rcases hb with ⟨rfl, rfl⟩ | ⟨a, cap, rfl, _, _⟩
  · simp at hl
  · go_enter Tryd.func63, Tryd.ntmps63
    go_wp2
    exact ⟨rfl, rfl, (Below.refl _ _).alloc (Nat.le_refl _) _, by simp⟩
set_option maxRecDepth 100000 in
set_option maxHeartbeats 1000000 in
theorem read_fit (S : Nat → Prop) (v : Value) (l : List UInt8) (w : World) (hS : ∀ k, S k → k < w.heap.size) (hb : BytesC S w v l) (hl : l.length ≤ 1048576) :
    Calls Tryd.prog 63 #[v] w (ReadGives w (match valD 16 l with
      | .ok (x, []) => .ok x
      | .ok (_, _ :: _) => .error 23
      | .error c => .error c)) := by
  have hst := run_storeF
  have hv := value_ok 16 S (w.heap.size + 1) l 0 _ (by omega) hl (rest_start (o := .cells #[.int .i64 0, .int .u64 0, .slice none 0 0, .float .f64 0, .slice none 0 0] 53) hS hb)
  obtain ⟨sa, sc, rfl⟩ := hb.shape
  have HV := Lib.hid hv
  clear hv hb
  generalize hy : valD 16 l = y at *
  clear hy
  cases y with
  | error c =>
    go_enter Tryd.func63, Tryd.ntmps63
    go_wp2_with fail
    refine HV.out.mono ?_
    rintro e w2 ⟨rfl, hg⟩
    go_wp2_with fail
    have hbl := kb_below (B := w.heap.size) hg (by omega) (by simp; omega)
    have hb2 := (((Below.refl _ w).alloc (Nat.le_refl _) _).alloc (by simp) _).trans hbl
    exact ⟨rfl, rfl, hb2, hb2.size⟩
  | ok p =>
    obtain ⟨x, r⟩ := p
    go_enter Tryd.func63, Tryd.ntmps63
    go_wp2_with fail
    refine HV.out.mono ?_
    rintro e w2 ⟨v2, rfl, hx, ⟨rv, hrc, hrf, hrb, _⟩, hg⟩
    have hs2 := hg.size
    simp at hs2
    have hbl : Below w.heap.size w w2 := (((Below.refl _ w).alloc (Nat.le_refl _) _).alloc (by simp) _).trans (kb_below (B := w.heap.size) hg (by omega) (by simp; omega))
    obtain ⟨k', u', b', f', l'⟩ := x
    obtain ⟨a1, n1, p1, a2, n2, p2, rfl⟩ := hx.shape
    obtain ⟨ra, rc, rfl⟩ := hrb.shape
    have hblk : w2.heap[w.heap.size]? = _ := (hg.block w.heap.size (by simp; omega) (fun e => by injection e with e; omega)).trans ((Below.heap_alloc _ _ _ (by simp)).trans (new_five w _ _))
    obtain ⟨⟨c0, c1, c2, c3, c4⟩, z0, z1, z2, z3, z4⟩ := five_cells ((Below.heap_alloc w2 (.cells #[.int .i64 k', .int .u64 u', .slice a1 n1 p1, .float .f64 f', .slice a2 n2 p2] 53) _ (by omega)).trans hblk)
    have HX := Lib.hid hx
    have HB := Lib.hid hbl
    clear hx hg hbl hrb hblk hrf
    cases r with
    | nil =>
      go_wp2_with fail
      obtain ⟨r0, r1, r2, r3, r4⟩ := set5_cells c0 c1 c2 c3 c4 (.int .i64 k') (.int .u64 u') (.slice a1 n1 p1) (.float .f64 f') (.slice a2 n2 p2)
      have hb3 := set5_grown (b := w.heap.size) (row := none) (kb_alloc (of_below HB.out) (.cells #[.int .i64 k', .int .u64 u', .slice a1 n1 p1, .float .f64 f', .slice a2 n2 p2] 53)) (Nat.le_refl _) (.int .i64 k') (.int .u64 u') (.slice a1 n1 p1) (.float .f64 f') (.slice a2 n2 p2)
      have hx3 := ReadsS.kept (S' := fun k => w.heap.size ≤ k ∧ k < w2.heap.size + 1) (w' := set5 (w2.alloc (.cells #[.int .i64 k', .int .u64 u', .slice a1 n1 p1, .float .f64 f', .slice a2 n2 p2] 53)) w.heap.size (.int .i64 k') (.int .u64 u') (.slice a1 n1 p1) (.float .f64 f') (.slice a2 n2 p2))
        (fun k hk => by simp at hk; exact ⟨⟨by omega, by omega⟩, (set5_block _ _ _ _ _ _ _ _ (by omega)).trans (Below.heap_alloc _ _ _ hk.2)⟩) 16 _ _ HX.out
      have hs3 : ∀ (v0 v1 v2 v3 v4 : Value), (set5 (w2.alloc (.cells #[.int .i64 k', .int .u64 u', .slice a1 n1 p1, .float .f64 f', .slice a2 n2 p2] 53)) w.heap.size v0 v1 v2 v3 v4).heap.size = w2.heap.size + 1 := by
        intro v0 v1 v2 v3 v4; rw [set5_size]; simp
      rw [← hs3 (.int .i64 k') (.int .u64 u') (.slice a1 n1 p1) (.float .f64 f') (.slice a2 n2 p2)] at hx3
      unfold set5 at r0 r1 r2 r3 r4
      exact bodyPost_ret (v := .agg #[.int .i64 k', .int .u64 u', .slice a1 n1 p1, .float .f64 f', .slice a2 n2 p2]) (by simp [results, Tryd.results63, go_sem, r0, r1, r2, r3, r4]) rfl ⟨_, rfl, hx3, below_of hb3⟩
    | cons c r =>
      go_wp2_with fail
      exact ⟨rfl, rfl, HB.out.alloc (by omega) _, by simp; omega⟩
theorem read_any (S : Nat → Prop) (v : Value) (l : List UInt8) (w : World) (hS : ∀ k, S k → k < w.heap.size) (hb : BytesC S w v l) : Calls Tryd.prog 63 #[v] w (ReadGives w (decR l)) := by
  unfold decR
  by_cases hl : 1048576 < l.length
  · rw [if_pos hl]; exact read_long S v l w hb hl
  · rw [if_neg hl]; exact read_fit S v l w hS hb (by omega)
end Go.Proofs.YtdolonkeanlaoaaDoor
namespace Go.Proofs.YtdolonkeanlaoaaDoor
open Go.RowKit

def DecAnswers (w : World) (r : Except Int Val) (e : Ending) (w' : World) : Prop :=
  match r with
  | .ok x => ∃ v, e = .returned (.tuple #[v, .int .i64 0]) ∧ ReadsS (fun k => w.heap.size ≤ k ∧ k < w'.heap.size) w' 16 v x ∧ Below w.heap.size w w'
  | .error c => e = .returned (.tuple #[.agg #[.int .i64 0, .int .u64 0, .slice none 0 0, .float .f64 0, .slice none 0 0], .int .i64 c]) ∧ Below w.heap.size w w'
set_option maxHeartbeats 400000 in
theorem dec_idle (p q : Addr) (w : World) :
    CallsD Tryd.prog 61 #[.pointer (some p), .pointer (some q)] .returning w fun e u' w' => e = .returned (.tuple #[]) ∧ u' = .returning ∧ w' = w := by
  refine callsD_of_wpS Tryd.func61 rfl fun c₀ cs hu => ?_
  apply wpS_seq
  apply wpS_region
  simp [wpOpsS, go_sem, recoverD, hu, Tryd.ntmps61, Exit.thenS]
  refine wpS_of_wp ?_
  go_wp2
  cases c₀
  simp_all [bodyPostS, results, Tryd.results61]
theorem two_blocks (w : World) (cs : Array Value) (v : Value) (t t1 : TypeId) :
    ((w.alloc (.cells cs t)).alloc (.cells #[v] t1)).heap[w.heap.size]? = some (.cells cs t (0, 0)) ∧ ((w.alloc (.cells cs t)).alloc (.cells #[v] t1)).heap[w.heap.size + 1]? = some (.cells #[v] t1 (0, 0)) := by
  refine ⟨(Below.heap_alloc _ _ _ (by simp)).trans (new_five w _ _), ?_⟩
  have := new_five (w.alloc (.cells cs t)) #[v] t1
  simpa using this
set_option maxRecDepth 100000 in
set_option maxHeartbeats 1600000 in
theorem dec_panicking (b b2 : Nat) (hne : b ≠ b2) (c : Int) (x : Value) (c0 c1 c2 c3 c4 : Value) (t t2 : TypeId) (older : List PanicEntry) (w : World) (hp : w.heap[b]? = some (.cells #[c0, c1, c2, c3, c4] t (0, 0))) (hq : w.heap[b2]? = some (.cells #[x] t2 (0, 0))) :
    CallsD Tryd.prog 61 #[.pointer (some ⟨b, 0, none⟩), .pointer (some ⟨b2, 0, none⟩)] (.panicking ({ v := .iface 24 (.int .i64 c), recovered := false } :: older)) w fun e u' w' =>
      e = .returned (.tuple #[]) ∧ u' = .panicking ({ v := .iface 24 (.int .i64 c), recovered := true } :: older) ∧ w' = (set5 w b (.int .i64 0) (.int .u64 0) (.slice none 0 0) (.float .f64 0) (.slice none 0 0)).setCell ⟨b2, 0, none⟩ (.int .i64 c) := by
  have hst := run_storeF
  refine callsD_of_wpS Tryd.func61 rfl fun c₀ cs hu => ?_
  have hq5 : (set5 w b (.int .i64 0) (.int .u64 0) (.slice none 0 0) (.float .f64 0) (.slice none 0 0)).heap[b2]? = some (.cells #[x] t2 (0, 0)) := (set5_block _ _ _ _ _ _ _ _ (Ne.symm hne)).trans hq
  have HQ := Lib.hid (cell_of_one hq5)
  have HZQ := Lib.hid (free_of_one hq5)
  have HP := Lib.hid (five_cells hp)
  clear hp hq hq5
  apply wpS_seq
  apply wpS_region
  simp [wpOpsS, go_sem, recoverD, hu, Tryd.ntmps61, Exit.thenS]
  have HU := Lib.hid hu
  clear hu
  rw [show (#[Value.pointer (some ⟨b, 0, none⟩), Value.pointer (some ⟨b2, 0, none⟩)] ++ ((Array.replicate 7 undef).setIfInBounds 1 (Value.iface 24 (Value.int IntKind.i64 c))).setIfInBounds 0 (Value.iface 24 (Value.int IntKind.i64 c)) : Array Value)
    = #[.pointer (some ⟨b, 0, none⟩), .pointer (some ⟨b2, 0, none⟩), .iface 24 (.int .i64 c), .iface 24 (.int .i64 c), undef, undef, undef, undef, undef] from rfl]
  generalize hc1 : { c₀ with mode := FrameMode.panicking ({ v := Value.iface 24 (Value.int IntKind.i64 c), recovered := true, goexit := false } :: older) } = c1'
  have HC := Lib.hid hc1
  clear hc1
  refine wpS_of_wp ?_
  generalize hq : (fun e a' w' => bodyPostS Tryd.prog Tryd.f61 c₀ cs (fun e u' w' =>
      e = Ending.returned (Value.tuple #[]) ∧
        u' = FrameMode.panicking ({ v := Value.iface 24 (Value.int IntKind.i64 c), recovered := true } :: older) ∧
          w' = (set5 w b (.int .i64 0) (.int .u64 0) (.slice none 0 0) (.float .f64 0) (.slice none 0 0)).setCell ⟨b2, 0, none⟩ (Value.int IntKind.i64 c)) e a' (c1' :: cs) w') = Q
  have HQQ := Lib.hid hq
  clear hq
  obtain ⟨⟨p0, p1, p2, p3, p4⟩, z0, z1, z2, z3, z4⟩ := HP.out
  have hq := HQ.out
  have hzq := HZQ.out
  unfold set5 at hq hzq
  go_wp2_with fail
  refine (code_any c _).mono ?_
  rintro e w' ⟨rfl, rfl⟩
  go_wp2
  have e := HQQ.out
  subst e
  have e1 := HC.out
  subst e1
  cases c₀
  simp [bodyPostS, results, Tryd.results61, set5]
set_option maxRecDepth 100000 in
set_option maxHeartbeats 800000 in
theorem decode_bad (S : Nat → Prop) (v : Value) (l : List UInt8) (c : Int) (w : World) (hS : ∀ k, S k → k < w.heap.size) (hb : BytesC S w v l) (hc : decR l = .error c) :
    Calls Tryd.prog 39 #[v] w (DecAnswers w (.error c)) := by
  have hmf : ∀ (fn : Fn) (first cap : Array Value) (w : World), (Instr.makeFunc fn first cap).run Tryd.prog w = .ok (.func fn first cap) w := fun _ _ _ _ => rfl
  have hst := run_storeF
  have HB : Hid (Below w.heap.size w ((w.alloc (.cells #[.int .i64 0, .int .u64 0, .slice none 0 0, .float .f64 0, .slice none 0 0] 53)).alloc (.cells #[.int .i64 0] 24))) := Lib.hid (((Below.refl _ _).alloc (Nat.le_refl _) _).alloc (by simp) _)
  have hw := read_any S v l ((w.alloc (.cells #[.int .i64 0, .int .u64 0, .slice none 0 0, .float .f64 0, .slice none 0 0] 53)).alloc (.cells #[.int .i64 0] 24)) (fun k hk => by have := hS k hk; simp; omega) ((hb.alloc hS _).alloc (fun k hk => by have := hS k hk; simp; omega) _)
  rw [hc] at hw
  obtain ⟨sa, sc, rfl⟩ := hb.shape
  have HW := Lib.hid hw
  have HT := Lib.hid (two_blocks w #[.int .i64 0, .int .u64 0, .slice none 0 0, .float .f64 0, .slice none 0 0] (.int .i64 0) 53 24)
  clear hw hc hb
  go_enter_defers Tryd.func39, Tryd.ntmps39
  go_wp2_with fail
  refine HW.out.mono ?_
  rintro e w1 ⟨rfl, hb, hs⟩
  go_wp2
  obtain ⟨t0, t1⟩ := HT.out
  have k0 := (hb.block w.heap.size (by simp; omega)).trans t0
  have k1 := (hb.block (w.heap.size + 1) (by simp)).trans t1
  refine leaves_cons (f := 61) (args := #[.pointer (some ⟨w.heap.size, 0, none⟩), .pointer (some ⟨w.heap.size + 1, 0, none⟩)]) (by simp) (by simp [go_sem]) ?_
  refine (dec_panicking w.heap.size (w.heap.size + 1) (by omega) c _ _ _ _ _ _ _ _ [] _ k0 k1).mono ?_
  rintro e u' w'' ⟨rfl, rfl, rfl⟩
  obtain ⟨⟨p0, p1, p2, p3, p4⟩, _⟩ := five_cells k0
  obtain ⟨r0, r1, r2, r3, r4⟩ := set5_cells p0 p1 p2 p3 p4 (.int .i64 0) (.int .u64 0) (.slice none 0 0) (.float .f64 0) (.slice none 0 0)
  have hb3 := HB.out.trans (hb.mono HB.out.size)
  have hb4 := (below_of (set5_grown (b := w.heap.size) (row := none) (of_below hb3) (Nat.le_refl _) (.int .i64 0) (.int .u64 0) (.slice none 0 0) (.float .f64 0) (.slice none 0 0))).setCell (p := ⟨w.heap.size + 1, 0, none⟩) (by simp) (.int .i64 c)
  have k2 : (set5 w1 w.heap.size (.int .i64 0) (.int .u64 0) (.slice none 0 0) (.float .f64 0) (.slice none 0 0)).heap[w.heap.size + 1]? = _ := (set5_block _ _ _ _ _ _ _ _ (by omega)).trans k1
  have q0 := cell_of_one k2
  generalize set5 w1 w.heap.size (.int .i64 0) (.int .u64 0) (.slice none 0 0) (.float .f64 0) (.slice none 0 0) = w3 at *
  simp [Leaves, settle, results, Tryd.results39, go_sem, r0, r1, r2, r3, r4, q0, DecAnswers]
  exact hb4
set_option maxRecDepth 100000 in
set_option maxHeartbeats 800000 in
theorem decode_fit (S : Nat → Prop) (v : Value) (l : List UInt8) (x : Val) (w : World) (hS : ∀ k, S k → k < w.heap.size) (hb : BytesC S w v l) (hc : decR l = .ok x) :
    Calls Tryd.prog 39 #[v] w (DecAnswers w (.ok x)) := by
  have hmf : ∀ (fn : Fn) (first cap : Array Value) (w : World), (Instr.makeFunc fn first cap).run Tryd.prog w = .ok (.func fn first cap) w := fun _ _ _ _ => rfl
  have hst := run_storeF
  have HB : Hid (Below w.heap.size w ((w.alloc (.cells #[.int .i64 0, .int .u64 0, .slice none 0 0, .float .f64 0, .slice none 0 0] 53)).alloc (.cells #[.int .i64 0] 24))) := Lib.hid (((Below.refl _ _).alloc (Nat.le_refl _) _).alloc (by simp) _)
  have hw := read_any S v l ((w.alloc (.cells #[.int .i64 0, .int .u64 0, .slice none 0 0, .float .f64 0, .slice none 0 0] 53)).alloc (.cells #[.int .i64 0] 24)) (fun k hk => by have := hS k hk; simp; omega) ((hb.alloc hS _).alloc (fun k hk => by have := hS k hk; simp; omega) _)
  rw [hc] at hw
  obtain ⟨sa, sc, rfl⟩ := hb.shape
  have HW := Lib.hid hw
  have HT := Lib.hid (two_blocks w #[.int .i64 0, .int .u64 0, .slice none 0 0, .float .f64 0, .slice none 0 0] (.int .i64 0) 53 24)
  clear hw hc hb
  go_enter_defers Tryd.func39, Tryd.ntmps39
  go_wp2_with fail
  refine HW.out.mono ?_
  rintro e w1 ⟨v1, rfl, hx, hb⟩
  obtain ⟨k', u', b', f', l'⟩ := x
  obtain ⟨a1, n1, p1, a2, n2, p2, rfl⟩ := hx.shape
  obtain ⟨t0, t1⟩ := HT.out
  have k0 := (hb.block w.heap.size (by simp; omega)).trans t0
  have k1 := (hb.block (w.heap.size + 1) (by simp)).trans t1
  obtain ⟨⟨c0, c1, c2, c3, c4⟩, z0, z1, z2, z3, z4⟩ := five_cells k0
  have k2 : (set5 w1 w.heap.size (.int .i64 k') (.int .u64 u') (.slice a1 n1 p1) (.float .f64 f') (.slice a2 n2 p2)).heap[w.heap.size + 1]? = _ := (set5_block _ _ _ _ _ _ _ _ (by omega)).trans k1
  have q0 := cell_of_one k2
  have qz := free_of_one k2
  unfold set5 at q0 qz
  have R := Lib.hid (set5_cells c0 c1 c2 c3 c4 (.int .i64 k') (.int .u64 u') (.slice a1 n1 p1) (.float .f64 f') (.slice a2 n2 p2))
  have hb3 := HB.out.trans (hb.mono HB.out.size)
  have hs1 := hb.size
  simp at hs1
  have hb4 := (below_of (set5_grown (b := w.heap.size) (row := none) (of_below hb3) (Nat.le_refl _) (.int .i64 k') (.int .u64 u') (.slice a1 n1 p1) (.float .f64 f') (.slice a2 n2 p2))).setCell (p := ⟨w.heap.size + 1, 0, none⟩) (by simp) (.int .i64 0)
  have hx4 := ReadsS.kept (S' := fun k => w.heap.size ≤ k ∧ k < w1.heap.size) (w' := (set5 w1 w.heap.size (.int .i64 k') (.int .u64 u') (.slice a1 n1 p1) (.float .f64 f') (.slice a2 n2 p2)).setCell ⟨w.heap.size + 1, 0, none⟩ (.int .i64 0))
    (fun k hk => by simp at hk; exact ⟨⟨by omega, hk.2⟩, (Below.heap_setCell _ _ _ _ (by simp; omega)).trans (set5_block _ _ _ _ _ _ _ _ (by omega))⟩) 16 _ _ hx
  have hs4 : ∀ v0 v1 v2 v3 v4 u, ((set5 w1 w.heap.size v0 v1 v2 v3 v4).setCell ⟨w.heap.size + 1, 0, none⟩ u).heap.size = w1.heap.size := by
    intro v0 v1 v2 v3 v4 u; simp [set5_size]
  rw [← hs4 (.int .i64 k') (.int .u64 u') (.slice a1 n1 p1) (.float .f64 f') (.slice a2 n2 p2) (.int .i64 0)] at hx4
  have B4 := Lib.hid hb4
  have X4 := Lib.hid hx4
  have K2 := Lib.hid (cell_of_one k2)
  clear k0 k1 k2 hx4 hb4 hb3 hb hs4 HW HT HB t0 t1 hx
  go_wp2
  refine leaves_cons (f := 61) (args := #[.pointer (some ⟨w.heap.size, 0, none⟩), .pointer (some ⟨w.heap.size + 1, 0, none⟩)]) (by simp) (by simp [go_sem]) ?_
  refine (dec_idle ⟨w.heap.size, 0, none⟩ ⟨w.heap.size + 1, 0, none⟩ _).mono ?_
  rintro e u' w'' ⟨rfl, rfl, rfl⟩
  have b4 := B4.out
  have x4 := X4.out
  obtain ⟨r0, r1, r2, r3, r4⟩ := R.out
  have q2 := K2.out
  clear B4 X4 R K2 q0 qz
  rw [show (((((w1.setCell ⟨w.heap.size, 0, none⟩ (.int .i64 k')).setCell ⟨w.heap.size, 1, none⟩ (.int .u64 u')).setCell ⟨w.heap.size, 2, none⟩ (.slice a1 n1 p1)).setCell ⟨w.heap.size, 3, none⟩ (.float .f64 f')).setCell ⟨w.heap.size, 4, none⟩ (.slice a2 n2 p2)) =
    set5 w1 w.heap.size (.int .i64 k') (.int .u64 u') (.slice a1 n1 p1) (.float .f64 f') (.slice a2 n2 p2) from rfl]
  generalize set5 w1 w.heap.size (.int .i64 k') (.int .u64 u') (.slice a1 n1 p1) (.float .f64 f') (.slice a2 n2 p2) = w3 at *
  simp [Leaves, settle, results, Tryd.results39, go_sem, r0, r1, r2, r3, r4, q2, DecAnswers]
  exact ⟨by simpa using x4, b4⟩
theorem decode_any (S : Nat → Prop) (v : Value) (l : List UInt8) (w : World) (hS : ∀ k, S k → k < w.heap.size) (hb : BytesC S w v l) : Calls Tryd.prog 39 #[v] w (DecAnswers w (decR l)) := by
  cases h : decR l with
  | ok x => exact decode_fit S v l x w hS hb h
  | error c => exact decode_bad S v l c w hS hb h
end Go.Proofs.YtdolonkeanlaoaaDoor
namespace Go.Proofs.YtdolonkeanlaoaaDoor
open Go.RowKit

theorem headL_of : ∀ (l : List UInt8) (s n m : Nat) (r : List UInt8), headLoop s n l = .ok (m, r) → ∃ q, l = headL (q % 128) (q / 128) ++ r ∧ m = n + q * 2 ^ s ∧ 0 < q
  | [], s, n, m, r, h => by simp only [headLoop] at h; cases h
  | p :: l, s, n, m, r, h => by
    have hp := p.toNat_lt
    simp only [headLoop] at h
    split at h
    · cases h
    rename_i hne
    have hp0 : p.toNat ≠ 0 := fun e => hne (Or.inl e)
    split at h
    · rename_i hge
      obtain ⟨q, h1, h2, h3⟩ := headL_of l _ _ m r h
      refine ⟨p.toNat % 128 + q * 128, ?_, ?_, by omega⟩
      · have e1 : (p.toNat % 128 + q * 128) % 128 = p.toNat % 128 := by omega
        have e2 : (p.toNat % 128 + q * 128) / 128 = q := by omega
        rw [e1, e2, headL, if_neg (by omega), List.cons_append, ← h1]
        congr 1
        apply UInt8.toNat.inj
        simp; omega
      · rw [h2, Nat.pow_add, Nat.add_mul, Nat.add_assoc]
        congr 2
        rw [show (2 : Nat) ^ 7 = 128 from rfl, Nat.mul_assoc, Nat.mul_comm 128]
    · injection h with h
      injection h with h1 h2
      subst h1 h2
      refine ⟨p.toNat, ?_, ?_, by omega⟩
      · have e1 : p.toNat % 128 = p.toNat := by omega
        have e2 : p.toNat / 128 = 0 := by omega
        rw [e1, e2, headL, if_pos rfl]
        simp
      · have e1 : p.toNat % 128 = p.toNat := by omega
        rw [e1]
theorem headD_of {l r : List UInt8} {k n : Nat} (h : headD l = .ok (k, n, r)) : l = headB k n ++ r ∧ k < 4 := by
  cases l with
  | nil => simp only [headD] at h; cases h
  | cons c l =>
    have hc := c.toNat_lt
    simp only [headD] at h
    split at h
    · rename_i hge
      cases hl : headLoop 5 (c.toNat % 128 / 4) l with
      | error e => rw [hl] at h; cases h
      | ok y =>
        obtain ⟨m, r'⟩ := y
        rw [hl] at h
        injection h with h
        injection h with h1 h
        injection h with h2 h3
        subst h1 h2 h3
        obtain ⟨q, e1, e2, e3⟩ := headL_of l _ _ _ _ hl
        refine ⟨?_, by omega⟩
        have e4 : m % 32 = c.toNat % 128 / 4 := by rw [e2]; omega
        have e5 : m / 32 = q := by rw [e2]; omega
        unfold headB
        rw [e4, e5, headL, if_neg (by omega), List.cons_append, ← e1]
        congr 1
        apply UInt8.toNat.inj
        simp; omega
    · injection h with h
      injection h with h1 h
      injection h with h2 h3
      subst h1 h2 h3
      refine ⟨?_, by omega⟩
      unfold headB
      have e5 : c.toNat % 128 / 4 / 32 = 0 := by omega
      rw [e5, headL, if_pos rfl]
      simp only [List.cons_append, List.nil_append]
      congr 1
      apply UInt8.toNat.inj
      simp; omega
def RHeadGives (w : World) (t : Nat) (r : Except Int (Nat × Nat × List UInt8)) (e : Ending) (w' : World) : Prop :=
  match r with
  | .ok (k, n, _) => e = .returned (.tuple #[.int .i64 k, .int .u64 n, .int .i64 (t + (headB k n).length : Nat), .int .i64 0]) ∧ k < 4 ∧ n < 18446744073709551616 ∧ Below w.heap.size w w'
  | .error c => e = .returned (.tuple #[.int .i64 0, .int .u64 0, .int .i64 t, .int .i64 c]) ∧ Below w.heap.size w w'
def placeW (k : Nat) : Nat := if k ≤ 9 then 2 ^ (5 + 7 * (k - 1)) else 0
theorem place_facts (k : Nat) (h1 : 1 ≤ k) (h9 : k ≤ 9) : placeW k = 2 ^ (5 + 7 * (k - 1)) ∧ IntKind.u64.wrap ((placeW k : Int) * 128) = (placeW (k + 1) : Int) := by
  have : k = 1 ∨ k = 2 ∨ k = 3 ∨ k = 4 ∨ k = 5 ∨ k = 6 ∨ k = 7 ∨ k = 8 ∨ k = 9 := by omega
  rcases this with rfl | rfl | rfl | rfl | rfl | rfl | rfl | rfl | rfl <;> exact ⟨rfl, by rw [IntKind.wrap_u64]; rfl⟩
end Go.Proofs.YtdolonkeanlaoaaDoor
namespace Go.Proofs.YtdolonkeanlaoaaDoor
open Go.RowKit

def RValGives (s : List UInt8) (t : Nat) (w : World) (n : Nat) (r : Except Int (Val × List UInt8)) (e : Ending) (w' : World) : Prop :=
  match r with
  | .ok (x, l) => ∃ v t', e = .returned (.tuple #[v, .int .i64 (t' : Nat), .int .i64 0]) ∧ t ≤ t' ∧ t' ≤ s.length ∧ s.drop t' = l ∧ ReadsS (fun k => w.heap.size ≤ k ∧ k < w'.heap.size) w' n v x ∧ Below w.heap.size w w'
  | .error c => ∃ t' : Nat, e = .returned (.tuple #[.agg #[.int .i64 0, .int .u64 0, .slice none 0 0, .float .f64 0, .slice none 0 0], .int .i64 t', .int .i64 c]) ∧ c ≠ 0 ∧ Below w.heap.size w w'
theorem headLoop_err : ∀ (l : List UInt8) (s n : Nat) {c : Int}, headLoop s n l = .error c → c ≠ 0
  | [], s, n, c, h => by simp only [headLoop] at h; injection h with h; subst h; decide
  | p :: l, s, n, c, h => by
    simp only [headLoop] at h
    split at h
    · injection h with h; subst h; decide
    split at h
    · exact headLoop_err l _ _ h
    · cases h
theorem headD_err {l : List UInt8} {c : Int} (h : headD l = .error c) : c ≠ 0 := by
  cases l with
  | nil => simp only [headD] at h; injection h with h; subst h; decide
  | cons p l =>
    simp only [headD] at h
    split at h
    · cases hl : headLoop 5 (p.toNat % 128 / 4) l with
      | error e => rw [hl] at h; injection h with h; subst h; exact headLoop_err l _ _ hl
      | ok y => rw [hl] at h; cases h
    · cases h
/-- What the start leaves: the answer's cells, and all that was there. -/
structure RStart (w w1 : World) : Prop where
  blk : w1.heap[w.heap.size]? = some (.cells #[.int .i64 0, .int .u64 0, .slice none 0 0, .float .f64 0, .slice none 0 0] 53 (0, 0))
  below : Below w.heap.size w w1
  size : w.heap.size + 1 ≤ w1.heap.size
theorem RStart.of {w w1 : World} (h : Below (w.alloc (.cells #[.int .i64 0, .int .u64 0, .slice none 0 0, .float .f64 0, .slice none 0 0] 53)).heap.size (w.alloc (.cells #[.int .i64 0, .int .u64 0, .slice none 0 0, .float .f64 0, .slice none 0 0] 53)) w1) : RStart w w1 :=
  ⟨(h.block w.heap.size (by simp)).trans (new_five w _ _), ((Below.refl _ _).alloc (Nat.le_refl _) _).trans (h.mono (by simp)), by have := h.size; simp at this; omega⟩
theorem RStart.step {w w1 w2 : World} (h : RStart w w1) (hb : Below w1.heap.size w1 w2) : RStart w w2 :=
  ⟨(hb.block w.heap.size (by have := h.size; omega)).trans h.blk, h.below.trans (hb.mono (by have := h.size; omega)), by have := h.size; have := hb.size; omega⟩
theorem RStart.fin {w w1 : World} (h : RStart w w1) (v0 v1 v2 v3 v4 : Value) : Below w.heap.size w (set5 w1 w.heap.size v0 v1 v2 v3 v4) :=
  below_of (set5_grown (b := w.heap.size) (row := none) (of_below h.below) (Nat.le_refl _) v0 v1 v2 v3 v4)
theorem RStart.reads {w w1 : World} {n : Nat} {x : Val} {v0 v1 v2 v3 v4 : Value} (hx : ReadsS (fun k => w.heap.size < k ∧ k < w1.heap.size) w1 n (.agg #[v0, v1, v2, v3, v4]) x) :
    ReadsS (fun k => w.heap.size ≤ k ∧ k < (set5 w1 w.heap.size v0 v1 v2 v3 v4).heap.size) (set5 w1 w.heap.size v0 v1 v2 v3 v4) n (.agg #[v0, v1, v2, v3, v4]) x :=
  ReadsS.kept (fun k hk => ⟨⟨by omega, by rw [set5_size]; exact hk.2⟩, set5_block _ _ _ _ _ _ _ _ (by omega)⟩) n _ _ hx
/-- Where the rest behind a head begins. -/
theorem head_at {s r : List UInt8} {t k m : Nat} (ht : t ≤ s.length) (hh : headD (s.drop t) = .ok (k, m, r)) : t + (headB k m).length + r.length = s.length ∧ s.drop (t + (headB k m).length) = r := by
  have h := (headD_of hh).1
  refine ⟨?_, ?_⟩
  · have e := congrArg List.length h
    rw [List.length_drop, List.length_append] at e
    omega
  · rw [← List.drop_drop, h, List.drop_left]
theorem rest_at {s r : List UInt8} {i k : Nat} (h : s.drop i = r) (hk : k < r.length) : ∃ h2 : i + k < s.length, s[i + k] = r[k] := by
  subst h
  rw [List.length_drop] at hk
  exact ⟨by omega, by simp⟩
end Go.Proofs.YtdolonkeanlaoaaDoor
