/- Contracts: read, and Decode. Contracts: Decode. The walk of the reference's head. The walk of the reference's value: all but lists. -/
import Derived.Test.YtdolonkeanlaoaaGrLS
import Derived.Test.YtdolonkeanlaoaaGrFK
import Derived.Deep.Cut
namespace Go.Proofs.Ytdolonkeanlaoaa
open Go.RowKit

/-- What Decode answers. -/
def decR (l : List UInt8) : Except Int Val :=
  if 1048576 < l.length then .error 2 else match valD 16 l with
    | .ok (x, []) => .ok x
    | .ok (_, _ :: _) => .error 23
    | .error c => .error c
def ReadGives (w : World) (r : Except Int Val) (e : Ending) (w' : World) : Prop :=
  match r with
  | .ok x => ∃ v, e = .returned v ∧ ReadsS (fun k => w.heap.size ≤ k ∧ k < w'.heap.size) w' 16 v x ∧ Below w.heap.size w w'
  | .error c => Panics w.heap.size w c e w'
theorem rest_start {S : Nat → Prop} {w : World} {v : Value} {l : List UInt8} {o : Obj} (hS : ∀ k, S k → k < w.heap.size) (h : BytesC S w v l) :
    RestAt S (w.heap.size + 1) ((w.alloc o).alloc (.cells #[v] 142)) l := by
  have hb : ((w.alloc o).alloc (.cells #[v] 142)).heap[w.heap.size + 1]? = some (.cells #[v] 142 (0, 0)) := by
    have := new_five (w.alloc o) #[v] 142
    simpa using this
  refine ⟨v, cell_of_one hb, free_of_one hb, (h.alloc hS _).alloc (fun k hk => by have := hS k hk; simp; omega) _, fun hk => by have := hS _ hk; omega, fun k hk => by have := hS k hk; simp; omega, by simp⟩
set_option maxRecDepth 100000 in
set_option maxHeartbeats 1000000 in
theorem read_long (S : Nat → Prop) (v : Value) (l : List UInt8) (w : World) (hb : BytesC S w v l) (hl : 1048576 < l.length) :
    Calls Try.prog 88 #[v] w (Panics w.heap.size w 2) := by
  rcases hb with ⟨rfl, rfl⟩ | ⟨a, cap, rfl, _, _⟩
  · simp at hl
  · go_enter Try.func88, Try.ntmps88
    go_wp2
    exact ⟨rfl, rfl, (Below.refl _ _).alloc (Nat.le_refl _) _, by simp⟩
set_option maxRecDepth 100000 in
set_option maxHeartbeats 1000000 in
theorem read_fit (S : Nat → Prop) (v : Value) (l : List UInt8) (w : World) (hS : ∀ k, S k → k < w.heap.size) (hb : BytesC S w v l) (hl : l.length ≤ 1048576) :
    Calls Try.prog 88 #[v] w (ReadGives w (match valD 16 l with
      | .ok (x, []) => .ok x
      | .ok (_, _ :: _) => .error 23
      | .error c => .error c)) := by
  have hst := run_storeF
  have hv := value_ok 16 S (w.heap.size + 1) l 0 _ (by omega) hl (rest_start (o := .cells #[.int .i64 0, .int .u64 0, .slice none 0 0, .float .f64 0, .slice none 0 0] 82) hS hb)
  obtain ⟨sa, sc, rfl⟩ := hb.shape
  have HV := Lib.hid hv
  clear hv hb
  generalize hy : valD 16 l = y at *
  clear hy
  cases y with
  | error c =>
    go_enter Try.func88, Try.ntmps88
    go_wp2_with fail
    refine HV.out.mono ?_
    rintro e w2 ⟨rfl, hg⟩
    go_wp2_with fail
    have hbl := kb_below (B := w.heap.size) hg (by omega) (by simp; omega)
    have hb2 := (((Below.refl _ w).alloc (Nat.le_refl _) _).alloc (by simp) _).trans hbl
    exact ⟨rfl, rfl, hb2, hb2.size⟩
  | ok p =>
    obtain ⟨x, r⟩ := p
    go_enter Try.func88, Try.ntmps88
    go_wp2_with fail
    refine HV.out.mono ?_
    rintro e w2 ⟨v2, rfl, hx, ⟨rv, hrc, hrf, hrb, _⟩, hg⟩
    have hs2 := hg.size
    simp at hs2
    have hbl : Below w.heap.size w w2 := (((Below.refl _ w).alloc (Nat.le_refl _) _).alloc (by simp) _).trans (kb_below (B := w.heap.size) hg (by omega) (by simp; omega))
    obtain ⟨k', u', b', f', l'⟩ := x
    obtain ⟨a1, n1, p1, a2, n2, p2, rfl⟩ := hx.shape
    obtain ⟨ra, rc, rfl⟩ := hrb.shape
    have hblk : w2.heap[w.heap.size]? = _ := (hg.block w.heap.size (by simp; omega) (fun e => by injection e with e; omega)).trans ((Below.heap_alloc _ _ _ (by simp)).trans (new_five w _ _))
    obtain ⟨⟨c0, c1, c2, c3, c4⟩, z0, z1, z2, z3, z4⟩ := five_cells ((Below.heap_alloc w2 (.cells #[.int .i64 k', .int .u64 u', .slice a1 n1 p1, .float .f64 f', .slice a2 n2 p2] 82) _ (by omega)).trans hblk)
    have HX := Lib.hid hx
    have HB := Lib.hid hbl
    clear hx hg hbl hrb hblk hrf
    cases r with
    | nil =>
      go_wp2_with fail
      obtain ⟨r0, r1, r2, r3, r4⟩ := set5_cells c0 c1 c2 c3 c4 (.int .i64 k') (.int .u64 u') (.slice a1 n1 p1) (.float .f64 f') (.slice a2 n2 p2)
      have hb3 := set5_grown (b := w.heap.size) (row := none) (kb_alloc (of_below HB.out) (.cells #[.int .i64 k', .int .u64 u', .slice a1 n1 p1, .float .f64 f', .slice a2 n2 p2] 82)) (Nat.le_refl _) (.int .i64 k') (.int .u64 u') (.slice a1 n1 p1) (.float .f64 f') (.slice a2 n2 p2)
      have hx3 := ReadsS.kept (S' := fun k => w.heap.size ≤ k ∧ k < w2.heap.size + 1) (w' := set5 (w2.alloc (.cells #[.int .i64 k', .int .u64 u', .slice a1 n1 p1, .float .f64 f', .slice a2 n2 p2] 82)) w.heap.size (.int .i64 k') (.int .u64 u') (.slice a1 n1 p1) (.float .f64 f') (.slice a2 n2 p2))
        (fun k hk => by simp at hk; exact ⟨⟨by omega, by omega⟩, (set5_block _ _ _ _ _ _ _ _ (by omega)).trans (Below.heap_alloc _ _ _ hk.2)⟩) 16 _ _ HX.out
      have hs3 : ∀ (v0 v1 v2 v3 v4 : Value), (set5 (w2.alloc (.cells #[.int .i64 k', .int .u64 u', .slice a1 n1 p1, .float .f64 f', .slice a2 n2 p2] 82)) w.heap.size v0 v1 v2 v3 v4).heap.size = w2.heap.size + 1 := by
        intro v0 v1 v2 v3 v4; rw [set5_size]; simp
      rw [← hs3 (.int .i64 k') (.int .u64 u') (.slice a1 n1 p1) (.float .f64 f') (.slice a2 n2 p2)] at hx3
      unfold set5 at r0 r1 r2 r3 r4
      exact bodyPost_ret (v := .agg #[.int .i64 k', .int .u64 u', .slice a1 n1 p1, .float .f64 f', .slice a2 n2 p2]) (by simp [results, Try.results88, go_sem, r0, r1, r2, r3, r4]) rfl ⟨_, rfl, hx3, below_of hb3⟩
    | cons c r =>
      go_wp2_with fail
      exact ⟨rfl, rfl, HB.out.alloc (by omega) _, by simp; omega⟩
theorem read_any (S : Nat → Prop) (v : Value) (l : List UInt8) (w : World) (hS : ∀ k, S k → k < w.heap.size) (hb : BytesC S w v l) : Calls Try.prog 88 #[v] w (ReadGives w (decR l)) := by
  unfold decR
  by_cases hl : 1048576 < l.length
  · rw [if_pos hl]; exact read_long S v l w hb hl
  · rw [if_neg hl]; exact read_fit S v l w hS hb (by omega)
end Go.Proofs.Ytdolonkeanlaoaa
namespace Go.Proofs.Ytdolonkeanlaoaa
open Go.RowKit

def DecAnswers (w : World) (r : Except Int Val) (e : Ending) (w' : World) : Prop :=
  match r with
  | .ok x => ∃ v, e = .returned (.tuple #[v, .int .i64 0]) ∧ ReadsS (fun k => w.heap.size ≤ k ∧ k < w'.heap.size) w' 16 v x ∧ Below w.heap.size w w'
  | .error c => e = .returned (.tuple #[.agg #[.int .i64 0, .int .u64 0, .slice none 0 0, .float .f64 0, .slice none 0 0], .int .i64 c]) ∧ Below w.heap.size w w'
set_option maxHeartbeats 400000 in
theorem dec_idle (p q : Addr) (w : World) :
    CallsD Try.prog 86 #[.pointer (some p), .pointer (some q)] .returning w fun e u' w' => e = .returned (.tuple #[]) ∧ u' = .returning ∧ w' = w := by
  refine callsD_of_wpS Try.func86 rfl fun c₀ cs hu => ?_
  apply wpS_seq
  apply wpS_region
  simp [wpOpsS, go_sem, recoverD, hu, Try.ntmps86, Exit.thenS]
  refine wpS_of_wp ?_
  go_wp2
  cases c₀
  simp_all [bodyPostS, results, Try.results86]
theorem two_blocks (w : World) (cs : Array Value) (v : Value) (t t1 : TypeId) :
    ((w.alloc (.cells cs t)).alloc (.cells #[v] t1)).heap[w.heap.size]? = some (.cells cs t (0, 0)) ∧ ((w.alloc (.cells cs t)).alloc (.cells #[v] t1)).heap[w.heap.size + 1]? = some (.cells #[v] t1 (0, 0)) := by
  refine ⟨(Below.heap_alloc _ _ _ (by simp)).trans (new_five w _ _), ?_⟩
  have := new_five (w.alloc (.cells cs t)) #[v] t1
  simpa using this
set_option maxRecDepth 100000 in
set_option maxHeartbeats 1600000 in
theorem dec_panicking (b b2 : Nat) (hne : b ≠ b2) (c : Int) (x : Value) (c0 c1 c2 c3 c4 : Value) (t t2 : TypeId) (older : List PanicEntry) (w : World) (hp : w.heap[b]? = some (.cells #[c0, c1, c2, c3, c4] t (0, 0))) (hq : w.heap[b2]? = some (.cells #[x] t2 (0, 0))) :
    CallsD Try.prog 86 #[.pointer (some ⟨b, 0, none⟩), .pointer (some ⟨b2, 0, none⟩)] (.panicking ({ v := .iface 33 (.int .i64 c), recovered := false } :: older)) w fun e u' w' =>
      e = .returned (.tuple #[]) ∧ u' = .panicking ({ v := .iface 33 (.int .i64 c), recovered := true } :: older) ∧ w' = (set5 w b (.int .i64 0) (.int .u64 0) (.slice none 0 0) (.float .f64 0) (.slice none 0 0)).setCell ⟨b2, 0, none⟩ (.int .i64 c) := by
  have hst := run_storeF
  refine callsD_of_wpS Try.func86 rfl fun c₀ cs hu => ?_
  have hq5 : (set5 w b (.int .i64 0) (.int .u64 0) (.slice none 0 0) (.float .f64 0) (.slice none 0 0)).heap[b2]? = some (.cells #[x] t2 (0, 0)) := (set5_block _ _ _ _ _ _ _ _ (Ne.symm hne)).trans hq
  have HQ := Lib.hid (cell_of_one hq5)
  have HZQ := Lib.hid (free_of_one hq5)
  have HP := Lib.hid (five_cells hp)
  clear hp hq hq5
  apply wpS_seq
  apply wpS_region
  simp [wpOpsS, go_sem, recoverD, hu, Try.ntmps86, Exit.thenS]
  have HU := Lib.hid hu
  clear hu
  rw [show (#[Value.pointer (some ⟨b, 0, none⟩), Value.pointer (some ⟨b2, 0, none⟩)] ++ ((Array.replicate 7 undef).setIfInBounds 1 (Value.iface 33 (Value.int IntKind.i64 c))).setIfInBounds 0 (Value.iface 33 (Value.int IntKind.i64 c)) : Array Value)
    = #[.pointer (some ⟨b, 0, none⟩), .pointer (some ⟨b2, 0, none⟩), .iface 33 (.int .i64 c), .iface 33 (.int .i64 c), undef, undef, undef, undef, undef] from rfl]
  generalize hc1 : { c₀ with mode := FrameMode.panicking ({ v := Value.iface 33 (Value.int IntKind.i64 c), recovered := true, goexit := false } :: older) } = c1'
  have HC := Lib.hid hc1
  clear hc1
  refine wpS_of_wp ?_
  generalize hq : (fun e a' w' => bodyPostS Try.prog Try.f86 c₀ cs (fun e u' w' =>
      e = Ending.returned (Value.tuple #[]) ∧
        u' = FrameMode.panicking ({ v := Value.iface 33 (Value.int IntKind.i64 c), recovered := true } :: older) ∧
          w' = (set5 w b (.int .i64 0) (.int .u64 0) (.slice none 0 0) (.float .f64 0) (.slice none 0 0)).setCell ⟨b2, 0, none⟩ (Value.int IntKind.i64 c)) e a' (c1' :: cs) w') = Q
  have HQQ := Lib.hid hq
  clear hq
  obtain ⟨⟨p0, p1, p2, p3, p4⟩, z0, z1, z2, z3, z4⟩ := HP.out
  have hq := HQ.out
  have hzq := HZQ.out
  unfold set5 at hq hzq
  go_wp2_with fail
  refine (code_any c _).mono ?_
  rintro e w' ⟨rfl, rfl⟩
  go_wp2
  have e := HQQ.out
  subst e
  have e1 := HC.out
  subst e1
  cases c₀
  simp [bodyPostS, results, Try.results86, set5]
set_option maxRecDepth 100000 in
set_option maxHeartbeats 800000 in
theorem decode_bad (S : Nat → Prop) (v : Value) (l : List UInt8) (c : Int) (w : World) (hS : ∀ k, S k → k < w.heap.size) (hb : BytesC S w v l) (hc : decR l = .error c) :
    Calls Try.prog 64 #[v] w (DecAnswers w (.error c)) := by
  have hmf : ∀ (fn : Fn) (first cap : Array Value) (w : World), (Instr.makeFunc fn first cap).run Try.prog w = .ok (.func fn first cap) w := fun _ _ _ _ => rfl
  have hst := run_storeF
  have HB : Hid (Below w.heap.size w ((w.alloc (.cells #[.int .i64 0, .int .u64 0, .slice none 0 0, .float .f64 0, .slice none 0 0] 82)).alloc (.cells #[.int .i64 0] 33))) := Lib.hid (((Below.refl _ _).alloc (Nat.le_refl _) _).alloc (by simp) _)
  have hw := read_any S v l ((w.alloc (.cells #[.int .i64 0, .int .u64 0, .slice none 0 0, .float .f64 0, .slice none 0 0] 82)).alloc (.cells #[.int .i64 0] 33)) (fun k hk => by have := hS k hk; simp; omega) ((hb.alloc hS _).alloc (fun k hk => by have := hS k hk; simp; omega) _)
  rw [hc] at hw
  obtain ⟨sa, sc, rfl⟩ := hb.shape
  have HW := Lib.hid hw
  have HT := Lib.hid (two_blocks w #[.int .i64 0, .int .u64 0, .slice none 0 0, .float .f64 0, .slice none 0 0] (.int .i64 0) 82 33)
  clear hw hc hb
  go_enter_defers Try.func64, Try.ntmps64
  go_wp2_with fail
  refine HW.out.mono ?_
  rintro e w1 ⟨rfl, hb, hs⟩
  go_wp2
  obtain ⟨t0, t1⟩ := HT.out
  have k0 := (hb.block w.heap.size (by simp; omega)).trans t0
  have k1 := (hb.block (w.heap.size + 1) (by simp)).trans t1
  refine leaves_cons (f := 86) (args := #[.pointer (some ⟨w.heap.size, 0, none⟩), .pointer (some ⟨w.heap.size + 1, 0, none⟩)]) (by simp) (by simp [go_sem]) ?_
  refine (dec_panicking w.heap.size (w.heap.size + 1) (by omega) c _ _ _ _ _ _ _ _ [] _ k0 k1).mono ?_
  rintro e u' w'' ⟨rfl, rfl, rfl⟩
  obtain ⟨⟨p0, p1, p2, p3, p4⟩, _⟩ := five_cells k0
  obtain ⟨r0, r1, r2, r3, r4⟩ := set5_cells p0 p1 p2 p3 p4 (.int .i64 0) (.int .u64 0) (.slice none 0 0) (.float .f64 0) (.slice none 0 0)
  have hb3 := HB.out.trans (hb.mono HB.out.size)
  have hb4 := (below_of (set5_grown (b := w.heap.size) (row := none) (of_below hb3) (Nat.le_refl _) (.int .i64 0) (.int .u64 0) (.slice none 0 0) (.float .f64 0) (.slice none 0 0))).setCell (p := ⟨w.heap.size + 1, 0, none⟩) (by simp) (.int .i64 c)
  have k2 : (set5 w1 w.heap.size (.int .i64 0) (.int .u64 0) (.slice none 0 0) (.float .f64 0) (.slice none 0 0)).heap[w.heap.size + 1]? = _ := (set5_block _ _ _ _ _ _ _ _ (by omega)).trans k1
  have q0 := cell_of_one k2
  generalize set5 w1 w.heap.size (.int .i64 0) (.int .u64 0) (.slice none 0 0) (.float .f64 0) (.slice none 0 0) = w3 at *
  simp [Leaves, settle, results, Try.results64, go_sem, r0, r1, r2, r3, r4, q0, DecAnswers]
  exact hb4
set_option maxRecDepth 100000 in
set_option maxHeartbeats 800000 in
theorem decode_fit (S : Nat → Prop) (v : Value) (l : List UInt8) (x : Val) (w : World) (hS : ∀ k, S k → k < w.heap.size) (hb : BytesC S w v l) (hc : decR l = .ok x) :
    Calls Try.prog 64 #[v] w (DecAnswers w (.ok x)) := by
  have hmf : ∀ (fn : Fn) (first cap : Array Value) (w : World), (Instr.makeFunc fn first cap).run Try.prog w = .ok (.func fn first cap) w := fun _ _ _ _ => rfl
  have hst := run_storeF
  have HB : Hid (Below w.heap.size w ((w.alloc (.cells #[.int .i64 0, .int .u64 0, .slice none 0 0, .float .f64 0, .slice none 0 0] 82)).alloc (.cells #[.int .i64 0] 33))) := Lib.hid (((Below.refl _ _).alloc (Nat.le_refl _) _).alloc (by simp) _)
  have hw := read_any S v l ((w.alloc (.cells #[.int .i64 0, .int .u64 0, .slice none 0 0, .float .f64 0, .slice none 0 0] 82)).alloc (.cells #[.int .i64 0] 33)) (fun k hk => by have := hS k hk; simp; omega) ((hb.alloc hS _).alloc (fun k hk => by have := hS k hk; simp; omega) _)
  rw [hc] at hw
  obtain ⟨sa, sc, rfl⟩ := hb.shape
  have HW := Lib.hid hw
  have HT := Lib.hid (two_blocks w #[.int .i64 0, .int .u64 0, .slice none 0 0, .float .f64 0, .slice none 0 0] (.int .i64 0) 82 33)
  clear hw hc hb
  go_enter_defers Try.func64, Try.ntmps64
  go_wp2_with fail
  refine HW.out.mono ?_
  rintro e w1 ⟨v1, rfl, hx, hb⟩
  obtain ⟨k', u', b', f', l'⟩ := x
  obtain ⟨a1, n1, p1, a2, n2, p2, rfl⟩ := hx.shape
  obtain ⟨t0, t1⟩ := HT.out
  have k0 := (hb.block w.heap.size (by simp; omega)).trans t0
  have k1 := (hb.block (w.heap.size + 1) (by simp)).trans t1
  obtain ⟨⟨c0, c1, c2, c3, c4⟩, z0, z1, z2, z3, z4⟩ := five_cells k0
  have k2 : (set5 w1 w.heap.size (.int .i64 k') (.int .u64 u') (.slice a1 n1 p1) (.float .f64 f') (.slice a2 n2 p2)).heap[w.heap.size + 1]? = _ := (set5_block _ _ _ _ _ _ _ _ (by omega)).trans k1
  have q0 := cell_of_one k2
  have qz := free_of_one k2
  unfold set5 at q0 qz
  have R := Lib.hid (set5_cells c0 c1 c2 c3 c4 (.int .i64 k') (.int .u64 u') (.slice a1 n1 p1) (.float .f64 f') (.slice a2 n2 p2))
  have hb3 := HB.out.trans (hb.mono HB.out.size)
  have hs1 := hb.size
  simp at hs1
  have hb4 := (below_of (set5_grown (b := w.heap.size) (row := none) (of_below hb3) (Nat.le_refl _) (.int .i64 k') (.int .u64 u') (.slice a1 n1 p1) (.float .f64 f') (.slice a2 n2 p2))).setCell (p := ⟨w.heap.size + 1, 0, none⟩) (by simp) (.int .i64 0)
  have hx4 := ReadsS.kept (S' := fun k => w.heap.size ≤ k ∧ k < w1.heap.size) (w' := (set5 w1 w.heap.size (.int .i64 k') (.int .u64 u') (.slice a1 n1 p1) (.float .f64 f') (.slice a2 n2 p2)).setCell ⟨w.heap.size + 1, 0, none⟩ (.int .i64 0))
    (fun k hk => by simp at hk; exact ⟨⟨by omega, hk.2⟩, (Below.heap_setCell _ _ _ _ (by simp; omega)).trans (set5_block _ _ _ _ _ _ _ _ (by omega))⟩) 16 _ _ hx
  have hs4 : ∀ v0 v1 v2 v3 v4 u, ((set5 w1 w.heap.size v0 v1 v2 v3 v4).setCell ⟨w.heap.size + 1, 0, none⟩ u).heap.size = w1.heap.size := by
    intro v0 v1 v2 v3 v4 u; simp [set5_size]
  rw [← hs4 (.int .i64 k') (.int .u64 u') (.slice a1 n1 p1) (.float .f64 f') (.slice a2 n2 p2) (.int .i64 0)] at hx4
  have B4 := Lib.hid hb4
  have X4 := Lib.hid hx4
  have K2 := Lib.hid (cell_of_one k2)
  clear k0 k1 k2 hx4 hb4 hb3 hb hs4 HW HT HB t0 t1 hx
  go_wp2
  refine leaves_cons (f := 86) (args := #[.pointer (some ⟨w.heap.size, 0, none⟩), .pointer (some ⟨w.heap.size + 1, 0, none⟩)]) (by simp) (by simp [go_sem]) ?_
  refine (dec_idle ⟨w.heap.size, 0, none⟩ ⟨w.heap.size + 1, 0, none⟩ _).mono ?_
  rintro e u' w'' ⟨rfl, rfl, rfl⟩
  have b4 := B4.out
  have x4 := X4.out
  obtain ⟨r0, r1, r2, r3, r4⟩ := R.out
  have q2 := K2.out
  clear B4 X4 R K2 q0 qz
  rw [show (((((w1.setCell ⟨w.heap.size, 0, none⟩ (.int .i64 k')).setCell ⟨w.heap.size, 1, none⟩ (.int .u64 u')).setCell ⟨w.heap.size, 2, none⟩ (.slice a1 n1 p1)).setCell ⟨w.heap.size, 3, none⟩ (.float .f64 f')).setCell ⟨w.heap.size, 4, none⟩ (.slice a2 n2 p2)) =
    set5 w1 w.heap.size (.int .i64 k') (.int .u64 u') (.slice a1 n1 p1) (.float .f64 f') (.slice a2 n2 p2) from rfl]
  generalize set5 w1 w.heap.size (.int .i64 k') (.int .u64 u') (.slice a1 n1 p1) (.float .f64 f') (.slice a2 n2 p2) = w3 at *
  simp [Leaves, settle, results, Try.results64, go_sem, r0, r1, r2, r3, r4, q2, DecAnswers]
  exact ⟨by simpa using x4, b4⟩
theorem decode_any (S : Nat → Prop) (v : Value) (l : List UInt8) (w : World) (hS : ∀ k, S k → k < w.heap.size) (hb : BytesC S w v l) : Calls Try.prog 64 #[v] w (DecAnswers w (decR l)) := by
  cases h : decR l with
  | ok x => exact decode_fit S v l x w hS hb h
  | error c => exact decode_bad S v l c w hS hb h
end Go.Proofs.Ytdolonkeanlaoaa
namespace Go.Proofs.Ytdolonkeanlaoaa
open Go.RowKit

theorem headL_of : ∀ (l : List UInt8) (s n m : Nat) (r : List UInt8), headLoop s n l = .ok (m, r) → ∃ q, l = headL (q % 128) (q / 128) ++ r ∧ m = n + q * 2 ^ s ∧ 0 < q
  | [], s, n, m, r, h => by simp only [headLoop] at h; cases h
  | p :: l, s, n, m, r, h => by
    have hp := p.toNat_lt
    simp only [headLoop] at h
    split at h
    · cases h
    rename_i hne
    have hp0 : p.toNat ≠ 0 := fun e => hne (Or.inl e)
    split at h
    · rename_i hge
      obtain ⟨q, h1, h2, h3⟩ := headL_of l _ _ m r h
      refine ⟨p.toNat % 128 + q * 128, ?_, ?_, by omega⟩
      · have e1 : (p.toNat % 128 + q * 128) % 128 = p.toNat % 128 := by omega
        have e2 : (p.toNat % 128 + q * 128) / 128 = q := by omega
        rw [e1, e2, headL, if_neg (by omega), List.cons_append, ← h1]
        congr 1
        apply UInt8.toNat.inj
        simp; omega
      · rw [h2, Nat.pow_add, Nat.add_mul, Nat.add_assoc]
        congr 2
        rw [show (2 : Nat) ^ 7 = 128 from rfl, Nat.mul_assoc, Nat.mul_comm 128]
    · injection h with h
      injection h with h1 h2
      subst h1 h2
      refine ⟨p.toNat, ?_, ?_, by omega⟩
      · have e1 : p.toNat % 128 = p.toNat := by omega
        have e2 : p.toNat / 128 = 0 := by omega
        rw [e1, e2, headL, if_pos rfl]
        simp
      · have e1 : p.toNat % 128 = p.toNat := by omega
        rw [e1]
theorem headD_of {l r : List UInt8} {k n : Nat} (h : headD l = .ok (k, n, r)) : l = headB k n ++ r ∧ k < 4 := by
  cases l with
  | nil => simp only [headD] at h; cases h
  | cons c l =>
    have hc := c.toNat_lt
    simp only [headD] at h
    split at h
    · rename_i hge
      cases hl : headLoop 5 (c.toNat % 128 / 4) l with
      | error e => rw [hl] at h; cases h
      | ok y =>
        obtain ⟨m, r'⟩ := y
        rw [hl] at h
        injection h with h
        injection h with h1 h
        injection h with h2 h3
        subst h1 h2 h3
        obtain ⟨q, e1, e2, e3⟩ := headL_of l _ _ _ _ hl
        refine ⟨?_, by omega⟩
        have e4 : m % 32 = c.toNat % 128 / 4 := by rw [e2]; omega
        have e5 : m / 32 = q := by rw [e2]; omega
        unfold headB
        rw [e4, e5, headL, if_neg (by omega), List.cons_append, ← e1]
        congr 1
        apply UInt8.toNat.inj
        simp; omega
    · injection h with h
      injection h with h1 h
      injection h with h2 h3
      subst h1 h2 h3
      refine ⟨?_, by omega⟩
      unfold headB
      have e5 : c.toNat % 128 / 4 / 32 = 0 := by omega
      rw [e5, headL, if_pos rfl]
      simp only [List.cons_append, List.nil_append]
      congr 1
      apply UInt8.toNat.inj
      simp; omega
def RHeadGives (w : World) (t : Nat) (r : Except Int (Nat × Nat × List UInt8)) (e : Ending) (w' : World) : Prop :=
  match r with
  | .ok (k, n, _) => e = .returned (.tuple #[.int .i64 k, .int .u64 n, .int .i64 (t + (headB k n).length : Nat), .int .i64 0]) ∧ k < 4 ∧ n < 18446744073709551616 ∧ Below w.heap.size w w'
  | .error c => e = .returned (.tuple #[.int .i64 0, .int .u64 0, .int .i64 t, .int .i64 c]) ∧ Below w.heap.size w w'
def placeW (k : Nat) : Nat := if k ≤ 9 then 2 ^ (5 + 7 * (k - 1)) else 0
theorem place_facts (k : Nat) (h1 : 1 ≤ k) (h9 : k ≤ 9) : placeW k = 2 ^ (5 + 7 * (k - 1)) ∧ IntKind.u64.wrap ((placeW k : Int) * 128) = (placeW (k + 1) : Int) := by
  have : k = 1 ∨ k = 2 ∨ k = 3 ∨ k = 4 ∨ k = 5 ∨ k = 6 ∨ k = 7 ∨ k = 8 ∨ k = 9 := by omega
  rcases this with rfl | rfl | rfl | rfl | rfl | rfl | rfl | rfl | rfl <;> exact ⟨rfl, by rw [IntKind.wrap_u64]; rfl⟩
set_option maxRecDepth 100000 in
set_option maxHeartbeats 1000000 in
theorem rhead_none (s : List UInt8) (t : Nat) (w : World) (ht : s.length ≤ t) :
    Calls Try.prog 99 #[.string ⟨s.toArray⟩, .int .i64 t] w (RHeadGives w t (.error 20)) := by
  go_enter Try.func99, Try.ntmps99
  go_wp2_with fail
  exact bodyPost_ret (v := .tuple #[.int .i64 0, .int .u64 0, .int .i64 t, .int .i64 20]) (by simp [results, Try.results99, go_sem]) rfl ⟨rfl, Below.refl _ _⟩
set_option maxRecDepth 100000 in
set_option maxHeartbeats 2000000 in
theorem rhead_some (s : List UInt8) (t : Nat) (w : World) (hs : s.length ≤ 1048576) (ht : t < s.length) :
    Calls Try.prog 99 #[.string ⟨s.toArray⟩, .int .i64 t] w (RHeadGives w t (headD (s.drop t))) := by
  have hdrop : s.drop t = s[t] :: s.drop (t + 1) := List.drop_eq_getElem_cons ht
  have hc := ((⟨s.toArray⟩ : ByteArray)[t]'(idx_lt ht)).toNat_lt
  rw [hdrop, headD_cons, ← idx_eq s t ht]
  generalize hf : headStart ((⟨s.toArray⟩ : ByteArray)[t]'(idx_lt ht)).toNat (s.drop (t + 1)) = fin
  generalize hx : headFin ((⟨s.toArray⟩ : ByteArray)[t]'(idx_lt ht)).toNat fin = x
  have HX := Lib.hid hx
  have HF := Lib.hid hf
  have hd16 : decide (s.length ≤ t) = false := by simp; omega
  clear hx hf hdrop
  go_enter Try.func99, Try.ntmps99
  go_upto_region 4 with fail
  generalize ((⟨s.toArray⟩ : ByteArray)[t]'(idx_lt ht)).toNat = cn at *
  have hcw : wrap64 (cn : Int) = (cn : Int) := IntWalk.wrap64_in _ ⟨by omega, by omega⟩
  go_wp2_with fail
  go_loopw [8, 10, 11, 12] (fun x n p k wr => ∃ (pn nn kk : Nat), x = .int .i64 pn ∧ n = .int .u64 nn ∧ p = .int .u64 (placeW kk) ∧ k = .int .i64 kk ∧ wr = w ∧ pn < 256 ∧ 1 ≤ kk ∧ t + kk ≤ s.length ∧ kk ≤ 10 ∧ (128 ≤ pn → kk ≤ 9) ∧ nn < 2 ^ (5 + 7 * (kk - 1)) ∧ nn < 18446744073709551616 ∧
      fin = (if 128 ≤ pn then headLoop (5 + 7 * (kk - 1)) nn (s.drop (t + kk)) else .ok (nn, s.drop (t + kk))))
    (fun _ _ _ k _ => 10 - (intOf k).toNat)
  case atStart =>
    refine ⟨cn, cn % 128 / 4, 1, ?_, ?_, rfl, rfl, rfl, hc, by omega, by omega, by omega, by omega, by omega, by omega, ?_⟩
    · go_num
    · exact congrArg (Value.int .u64) (by omega)
    · rw [← HF.out]; unfold headStart
      by_cases h : 128 ≤ cn <;> simp [h]
  case round =>
    obtain ⟨pn, nn, kk, rfl, rfl, rfl, rfl, rfl, hpn, hk1, hks, hk10, hk9, hnn, hnl, hfin⟩ := hrel
    have HFI := Lib.hid hfin
    have HNN := Lib.hid hnn
    have HNL := Lib.hid hnl
    clear hfin hnn hnl
    by_cases hmore : 128 ≤ pn
    · have hk9 := hk9 hmore
      by_cases hend : s.length ≤ t + kk
      · have hx := HX.out
        rw [HFI.out, if_pos hmore, List.drop_eq_nil_of_le hend] at hx
        simp only [headLoop, headFin] at hx
        clear HX HFI HF
        subst hx
        go_wp2_with fail
        exact bodyPost_ret (v := .tuple #[.int .i64 0, .int .u64 0, .int .i64 t, .int .i64 20]) (by simp [results, Try.results99, go_sem]) rfl ⟨rfl, Below.refl _ _⟩
      · have hlt : t + kk < s.length := by omega
        have hdrop : s.drop (t + kk) = s[t + kk] :: s.drop (t + kk + 1) := List.drop_eq_getElem_cons hlt
        have hc2 := ((⟨s.toArray⟩ : ByteArray)[t + kk]'(idx_lt hlt)).toNat_lt
        have hfi := HFI.out
        rw [if_pos hmore, hdrop, ← idx_eq s (t + kk) hlt] at hfi
        simp only [headLoop] at hfi
        have HFJ := Lib.hid hfi
        clear hfi hdrop
        go_upto_region 13 with fail
        generalize ((⟨s.toArray⟩ : ByteArray)[t + kk]'(idx_lt hlt)).toNat = qn at *
        have hcw2 : wrap64 (qn : Int) = (qn : Int) := IntWalk.wrap64_in _ ⟨by omega, by omega⟩
        have hfj := HFJ.out
        rw [show s.drop (t + kk + 1) = s.drop (t + (kk + 1)) from rfl] at hfj
        by_cases hbad : qn = 0 ∨ (5 + 7 * (kk - 1) = 61 ∧ 7 < qn)
        · have hx := HX.out
          rw [hfj, if_pos hbad] at hx
          simp only [headFin] at hx
          clear HX HFI HF HFJ hfj hcw hcw2
          subst hx
          have hbad2 : qn = 0 ∨ (kk = 9 ∧ 7 < qn) := by omega
          clear hbad
          rcases hbad2 with rfl | ⟨rfl, h7⟩
          · go_wp2_with fail
            exact bodyPost_ret (v := .tuple #[.int .i64 0, .int .u64 0, .int .i64 t, .int .i64 21]) (by simp [results, Try.results99, go_sem]) rfl ⟨rfl, Below.refl _ _⟩
          · have hq0 : ((qn : Int) == 0) = false := by rw [beq_eq_false_iff_ne]; omega
            have hq7 : decide ((7 : Int) < (qn : Int)) = true := by simp; omega
            go_wp2_with fail
            exact bodyPost_ret (v := .tuple #[.int .i64 0, .int .u64 0, .int .i64 t, .int .i64 21]) (by simp [results, Try.results99, go_sem]) rfl ⟨rfl, Below.refl _ _⟩
        · rw [if_neg hbad] at hfj
          have HFK := Lib.hid hfj
          have hq0 : ((qn : Int) == 0) = false := by rw [beq_eq_false_iff_ne]; omega
          obtain ⟨hpl, hpn2⟩ := place_facts kk hk1 hk9
          have hnb := next_bd nn (qn % 128) (5 + 7 * (kk - 1)) HNN.out (by omega)
          have hsum : nn + qn % 128 * 2 ^ (5 + 7 * (kk - 1)) < 18446744073709551616 := by
            by_cases h9 : kk = 9
            · subst h9
              have := HNN.out
              omega
            · have := pow_bd (s := 5 + 7 * (kk - 1)) (by omega)
              omega
          have hnb2 : nn + qn % 128 * 2 ^ (5 + 7 * (kk - 1)) < 2 ^ (5 + 7 * (kk + 1 - 1)) := by
            rw [show 5 + 7 * (kk + 1 - 1) = 5 + 7 * (kk - 1) + 7 by omega]; exact hnb
          rw [← hpl] at hnb2 hsum
          have e7 : 5 + 7 * (kk - 1) + 7 = 5 + 7 * (kk + 1 - 1) := by omega
          have hfk := HFK.out
          rw [← hpl, e7] at hfk
          have HFL := Lib.hid hfk
          clear hnb hfk HFK hfj HFJ hpl e7
          generalize placeW kk = pl at *
          have hmul : IntKind.u64.wrap ((qn : Int) % 128 * (pl : Int)) = ((qn % 128 * pl : Nat) : Int) := by
            have e : (qn : Int) % 128 * (pl : Int) = ((qn % 128 * pl : Nat) : Int) := by push_cast; rfl
            rw [e, IntKind.wrap_u64]; omega
          generalize qn % 128 * pl = pr at *
          have hadd : IntKind.u64.wrap ((nn : Int) + (pr : Int)) = ((nn + pr : Nat) : Int) := by
            rw [IntKind.wrap_u64]; omega
          generalize nn + pr = sm at *
          have HB2 := Lib.hid hnb2
          have HSM := Lib.hid hsum
          clear hnb2 hsum
          by_cases h9 : kk = 9
          · have hq7 : decide ((7 : Int) < (qn : Int)) = false := by simp; omega
            have hk9f : ((kk : Int) == 9) = true := by rw [beq_iff_eq]; omega
            have H9 := Lib.hid h9
            have HBAD := Lib.hid hbad
            clear h9 hbad
            go_wp2_with fail
            go_roundw
            case rel => exact ⟨qn, sm, kk + 1, rfl, rfl, rfl, by go_num, trivial, by omega, by omega, by omega, by omega, fun h => by have := HBAD.out; have := H9.out; omega, HB2.out, HSM.out, HFL.out⟩
            case measure => simp [intOf]; omega
          · have hk9f : ((kk : Int) == 9) = false := by rw [beq_eq_false_iff_ne]; omega
            go_wp2_with fail
            go_roundw
            case rel => exact ⟨qn, sm, kk + 1, rfl, rfl, rfl, by go_num, trivial, by omega, by omega, by omega, by omega, fun h => by omega, HB2.out, HSM.out, HFL.out⟩
            case measure => simp [intOf]; omega
    · have hx := HX.out
      rw [HFI.out, if_neg hmore] at hx
      simp only [headFin] at hx
      clear HX HFI HF
      subst hx
      have HH := Lib.hid (rhead_any (cn % 4) nn wr (by omega) HNL.out)
      have hl := headB_len (cn % 4) nn HNL.out
      have HLL := Lib.hid hl
      clear hl
      go_wp2_with fail
      rw [show ((cn : Int) % 4) = ((cn % 4 : Nat) : Int) by omega]
      refine HH.out.mono ?_
      rintro e w2 ⟨rfl, hbl⟩
      have HBL := Lib.hid hbl
      have hl := HLL.out
      clear hbl
      go_wp2_with fail
      have e1 : ((cn % 4 : Nat) : Int) = (cn : Int) % 4 := by omega
      have e2 : ((t + (headB (cn % 4) nn).length : Nat) : Int) = (t : Int) + (headB (cn % 4) nn).length := by omega
      refine bodyPost_ret (v := .tuple #[.int .i64 (cn % 4 : Nat), .int .u64 nn, .int .i64 (t + (headB (cn % 4) nn).length : Nat), .int .i64 0]) ?_ rfl ⟨rfl, by omega, HNL.out, HBL.out⟩
      rw [e1, e2]
      simp [results, Try.results99, go_sem]
theorem rhead_all (s : List UInt8) (t : Nat) (w : World) (hs : s.length ≤ 1048576) : Calls Try.prog 99 #[.string ⟨s.toArray⟩, .int .i64 t] w (RHeadGives w t (headD (s.drop t))) := by
  by_cases ht : t < s.length
  · exact rhead_some s t w hs ht
  · have e : s.drop t = [] := List.drop_eq_nil_of_le (by omega)
    rw [e]; exact rhead_none s t w (by omega)
end Go.Proofs.Ytdolonkeanlaoaa
namespace Go.Proofs.Ytdolonkeanlaoaa
open Go.RowKit

def RValGives (s : List UInt8) (t : Nat) (w : World) (n : Nat) (r : Except Int (Val × List UInt8)) (e : Ending) (w' : World) : Prop :=
  match r with
  | .ok (x, l) => ∃ v t', e = .returned (.tuple #[v, .int .i64 (t' : Nat), .int .i64 0]) ∧ t ≤ t' ∧ t' ≤ s.length ∧ s.drop t' = l ∧ ReadsS (fun k => w.heap.size ≤ k ∧ k < w'.heap.size) w' n v x ∧ Below w.heap.size w w'
  | .error c => ∃ t' : Nat, e = .returned (.tuple #[.agg #[.int .i64 0, .int .u64 0, .slice none 0 0, .float .f64 0, .slice none 0 0], .int .i64 t', .int .i64 c]) ∧ c ≠ 0 ∧ Below w.heap.size w w'
def RValueOk (n : Nat) : Prop := ∀ (s : List UInt8) (t a : Nat) (w : World), a + n = 16 → s.length ≤ 1048576 → t ≤ s.length →
    Calls Try.prog 89 #[.string ⟨s.toArray⟩, .int .i64 t, .int .i64 (a + 1 : Nat)] w (RValGives s t w n (valD n (s.drop t)))
theorem headLoop_err : ∀ (l : List UInt8) (s n : Nat) {c : Int}, headLoop s n l = .error c → c ≠ 0
  | [], s, n, c, h => by simp only [headLoop] at h; injection h with h; subst h; decide
  | p :: l, s, n, c, h => by
    simp only [headLoop] at h
    split at h
    · injection h with h; subst h; decide
    split at h
    · exact headLoop_err l _ _ h
    · cases h
theorem headD_err {l : List UInt8} {c : Int} (h : headD l = .error c) : c ≠ 0 := by
  cases l with
  | nil => simp only [headD] at h; injection h with h; subst h; decide
  | cons p l =>
    simp only [headD] at h
    split at h
    · cases hl : headLoop 5 (p.toNat % 128 / 4) l with
      | error e => rw [hl] at h; injection h with h; subst h; exact headLoop_err l _ _ hl
      | ok y => rw [hl] at h; cases h
    · cases h
set_option maxRecDepth 100000 in
set_option maxHeartbeats 1000000 in
theorem rvalue_deep : RValueOk 0 := by
  intro s t a w ha hl ht
  have e : a = 16 := by omega
  subst e
  have hst := run_storeF
  have H5 := Lib.hid (five_cells (new_five w #[.int .i64 0, .int .u64 0, .slice none 0 0, .float .f64 0, .slice none 0 0] 82))
  go_enter Try.func89, Try.ntmps89
  obtain ⟨⟨c0, c1, c2, c3, c4⟩, z0, z1, z2, z3, z4⟩ := H5.out
  go_wp2_with fail
  exact bodyPost_ret (v := .tuple #[.agg #[.int .i64 0, .int .u64 0, .slice none 0 0, .float .f64 0, .slice none 0 0], .int .i64 t, .int .i64 24]) (by simp [results, Try.results89, go_sem, c0, c1, c2, c3, c4]) rfl
    ⟨t, rfl, by decide, (Below.refl _ _).alloc (Nat.le_refl _) _⟩
/-- What the start leaves: the answer's cells, and all that was there. -/
structure RStart (w w1 : World) : Prop where
  blk : w1.heap[w.heap.size]? = some (.cells #[.int .i64 0, .int .u64 0, .slice none 0 0, .float .f64 0, .slice none 0 0] 82 (0, 0))
  below : Below w.heap.size w w1
  size : w.heap.size + 1 ≤ w1.heap.size
theorem RStart.of {w w1 : World} (h : Below (w.alloc (.cells #[.int .i64 0, .int .u64 0, .slice none 0 0, .float .f64 0, .slice none 0 0] 82)).heap.size (w.alloc (.cells #[.int .i64 0, .int .u64 0, .slice none 0 0, .float .f64 0, .slice none 0 0] 82)) w1) : RStart w w1 :=
  ⟨(h.block w.heap.size (by simp)).trans (new_five w _ _), ((Below.refl _ _).alloc (Nat.le_refl _) _).trans (h.mono (by simp)), by have := h.size; simp at this; omega⟩
theorem RStart.step {w w1 w2 : World} (h : RStart w w1) (hb : Below w1.heap.size w1 w2) : RStart w w2 :=
  ⟨(hb.block w.heap.size (by have := h.size; omega)).trans h.blk, h.below.trans (hb.mono (by have := h.size; omega)), by have := h.size; have := hb.size; omega⟩
theorem RStart.fin {w w1 : World} (h : RStart w w1) (v0 v1 v2 v3 v4 : Value) : Below w.heap.size w (set5 w1 w.heap.size v0 v1 v2 v3 v4) :=
  below_of (set5_grown (b := w.heap.size) (row := none) (of_below h.below) (Nat.le_refl _) v0 v1 v2 v3 v4)
theorem RStart.reads {w w1 : World} {n : Nat} {x : Val} {v0 v1 v2 v3 v4 : Value} (hx : ReadsS (fun k => w.heap.size < k ∧ k < w1.heap.size) w1 n (.agg #[v0, v1, v2, v3, v4]) x) :
    ReadsS (fun k => w.heap.size ≤ k ∧ k < (set5 w1 w.heap.size v0 v1 v2 v3 v4).heap.size) (set5 w1 w.heap.size v0 v1 v2 v3 v4) n (.agg #[v0, v1, v2, v3, v4]) x :=
  ReadsS.kept (fun k hk => ⟨⟨by omega, by rw [set5_size]; exact hk.2⟩, set5_block _ _ _ _ _ _ _ _ (by omega)⟩) n _ _ hx
set_option maxRecDepth 100000 in
set_option maxHeartbeats 1000000 in
theorem rvalue_head (n : Nat) (s : List UInt8) (t a : Nat) (w : World) (ha : a < 16) (hl : s.length ≤ 1048576) (c : Int) (hh : headD (s.drop t) = .error c) :
    Calls Try.prog 89 #[.string ⟨s.toArray⟩, .int .i64 t, .int .i64 (a + 1 : Nat)] w (RValGives s t w n (.error c)) := by
  have hst := run_storeF
  have HH := rhead_all s t (w.alloc (.cells #[.int .i64 0, .int .u64 0, .slice none 0 0, .float .f64 0, .slice none 0 0] 82)) hl
  rw [hh] at HH
  have H := Lib.hid HH
  have hc0 := headD_err hh
  have hcb : (c == 0) = false := by rw [beq_eq_false_iff_ne]; exact hc0
  have HC0 := Lib.hid hc0
  clear HH hh hc0
  go_enter Try.func89, Try.ntmps89
  go_wp2_with fail
  refine H.out.mono ?_
  rintro e w1 ⟨rfl, hb⟩
  have HS := Lib.hid (RStart.of hb)
  obtain ⟨⟨c0, c1, c2, c3, c4⟩, z0, z1, z2, z3, z4⟩ := five_cells HS.out.blk
  clear hb
  go_wp2_with fail
  obtain ⟨r0, r1, r2, r3, r4⟩ := set5_cells c0 c1 c2 c3 c4 (.int .i64 0) (.int .u64 0) (.slice none 0 0) (.float .f64 0) (.slice none 0 0)
  unfold set5 at r0 r1 r2 r3 r4
  exact bodyPost_ret (v := .tuple #[.agg #[.int .i64 0, .int .u64 0, .slice none 0 0, .float .f64 0, .slice none 0 0], .int .i64 t, .int .i64 c]) (by simp [results, Try.results89, go_sem, r0, r1, r2, r3, r4]) rfl
    ⟨t, rfl, HC0.out, HS.out.fin _ _ _ _ _⟩
/-- Where the rest behind a head begins. -/
theorem head_at {s r : List UInt8} {t k m : Nat} (ht : t ≤ s.length) (hh : headD (s.drop t) = .ok (k, m, r)) : t + (headB k m).length + r.length = s.length ∧ s.drop (t + (headB k m).length) = r := by
  have h := (headD_of hh).1
  refine ⟨?_, ?_⟩
  · have e := congrArg List.length h
    rw [List.length_drop, List.length_append] at e
    omega
  · rw [← List.drop_drop, h, List.drop_left]
set_option maxRecDepth 100000 in
set_option maxHeartbeats 1000000 in
theorem rvalue_num (n : Nat) (s r : List UInt8) (t a m : Nat) (w : World) (ha : a < 16) (hl : s.length ≤ 1048576) (ht : t ≤ s.length) (hh : headD (s.drop t) = .ok (0, m, r)) :
    Calls Try.prog 89 #[.string ⟨s.toArray⟩, .int .i64 t, .int .i64 (a + 1 : Nat)] w (RValGives s t w (n + 1) (.ok (.mk 0 m [] 0 [], r))) := by
  have hst := run_storeF
  have HH := rhead_all s t (w.alloc (.cells #[.int .i64 0, .int .u64 0, .slice none 0 0, .float .f64 0, .slice none 0 0] 82)) hl
  have HAT := Lib.hid (head_at ht hh)
  rw [hh] at HH
  have H := Lib.hid HH
  have htt : t + (headB 0 m).length ≤ s.length := by have := HAT.out.1; omega
  clear HH hh
  go_enter Try.func89, Try.ntmps89
  go_wp2_with fail
  refine H.out.mono ?_
  rintro e w1 ⟨rfl, _, hm, hb1⟩
  generalize (headB 0 m).length = hb at *
  have HS := Lib.hid (RStart.of hb1)
  have HM := Lib.hid hm
  obtain ⟨⟨c0, c1, c2, c3, c4⟩, z0, z1, z2, z3, z4⟩ := five_cells HS.out.blk
  clear hb1 hm
  go_wp2_with fail
  obtain ⟨r0, r1, r2, r3, r4⟩ := set5_cells c0 c1 c2 c3 c4 (.int .i64 0) (.int .u64 m) (.slice none 0 0) (.float .f64 0) (.slice none 0 0)
  unfold set5 at r0 r1 r2 r3 r4
  have hx := RStart.reads (w := w) (w1 := w1) (n := n + 1) (x := .mk 0 m [] 0 []) (v0 := .int .i64 0) (v1 := .int .u64 m) (v2 := .slice none 0 0) (v3 := .float .f64 0) (v4 := .slice none 0 0) ⟨_, _, rfl, HM.out, by omega, by simp, by simp, Or.inl ⟨rfl, rfl⟩, Or.inl ⟨rfl, rfl⟩⟩
  exact bodyPost_ret (v := .tuple #[.agg #[.int .i64 0, .int .u64 m, .slice none 0 0, .float .f64 0, .slice none 0 0], .int .i64 ((t + hb : Nat) : Int), .int .i64 0]) (by simp [results, Try.results89, go_sem, r0, r1, r2, r3, r4]) rfl
    ⟨_, t + hb, rfl, by omega, htt, HAT.out.2, hx, HS.out.fin _ _ _ _ _⟩
set_option maxRecDepth 100000 in
set_option maxHeartbeats 1000000 in
theorem rvalue_short (n : Nat) (s r : List UInt8) (t a m : Nat) (w : World) (ha : a < 16) (hl : s.length ≤ 1048576) (ht : t ≤ s.length) (hh : headD (s.drop t) = .ok (1, m, r)) (hm : r.length < m) :
    Calls Try.prog 89 #[.string ⟨s.toArray⟩, .int .i64 t, .int .i64 (a + 1 : Nat)] w (RValGives s t w (n + 1) (.error 20)) := by
  have hst := run_storeF
  have HH := rhead_all s t (w.alloc (.cells #[.int .i64 0, .int .u64 0, .slice none 0 0, .float .f64 0, .slice none 0 0] 82)) hl
  have HAT := Lib.hid (head_at ht hh)
  rw [hh] at HH
  have H := Lib.hid HH
  have htt : t + (headB 1 m).length ≤ s.length := by have := HAT.out.1; omega
  have hlt : (s.length : Int) - ((t : Int) + (headB 1 m).length) < m := by have := HAT.out.1; omega
  clear HH hh hm
  go_enter Try.func89, Try.ntmps89
  go_wp2_with fail
  refine H.out.mono ?_
  rintro e w1 ⟨rfl, _, hm, hb1⟩
  generalize (headB 1 m).length = hb at *
  have HS := Lib.hid (RStart.of hb1)
  obtain ⟨⟨c0, c1, c2, c3, c4⟩, z0, z1, z2, z3, z4⟩ := five_cells HS.out.blk
  clear hb1 hm
  go_wp2_with fail
  obtain ⟨r0, r1, r2, r3, r4⟩ := set5_cells c0 c1 c2 c3 c4 (.int .i64 0) (.int .u64 0) (.slice none 0 0) (.float .f64 0) (.slice none 0 0)
  unfold set5 at r0 r1 r2 r3 r4
  exact bodyPost_ret (v := .tuple #[.agg #[.int .i64 0, .int .u64 0, .slice none 0 0, .float .f64 0, .slice none 0 0], .int .i64 ((t + hb : Nat) : Int), .int .i64 20]) (by simp [results, Try.results89, go_sem, r0, r1, r2, r3, r4]) rfl
    ⟨t + hb, rfl, by decide, HS.out.fin _ _ _ _ _⟩
set_option maxRecDepth 100000 in
set_option maxHeartbeats 1000000 in
theorem rvalue_bytes (n : Nat) (s r : List UInt8) (t a m : Nat) (w : World) (ha : a < 16) (hl : s.length ≤ 1048576) (ht : t ≤ s.length) (hh : headD (s.drop t) = .ok (1, m, r)) (hm : m ≤ r.length) :
    Calls Try.prog 89 #[.string ⟨s.toArray⟩, .int .i64 t, .int .i64 (a + 1 : Nat)] w (RValGives s t w (n + 1) (.ok (.mk 1 0 (r.take m) 0 [], r.drop m))) := by
  have hst := run_storeF
  have HH := rhead_all s t (w.alloc (.cells #[.int .i64 0, .int .u64 0, .slice none 0 0, .float .f64 0, .slice none 0 0] 82)) hl
  have HAT := Lib.hid (head_at ht hh)
  rw [hh] at HH
  have H := Lib.hid HH
  have htt : t + (headB 1 m).length + m ≤ s.length := by have := HAT.out.1; omega
  have HMR := Lib.hid hm
  clear HH hh hm
  go_enter Try.func89, Try.ntmps89
  go_wp2_with fail
  refine H.out.mono ?_
  rintro e w1 ⟨rfl, _, hm, hb1⟩
  generalize (headB 1 m).length = hb at *
  have HS := Lib.hid (RStart.of hb1)
  obtain ⟨⟨c0, c1, c2, c3, c4⟩, z0, z1, z2, z3, z4⟩ := five_cells HS.out.blk
  clear hb1 hm
  have htl : (r.take m).length = m := by rw [List.length_take]; have := HMR.out; omega
  obtain ⟨cap, w2, hcv, hbc, hbl, hs2⟩ := conv_new w1 (r.take m) (by omega)
  rw [htl] at hcv hbc
  have hex : (⟨s.toArray⟩ : ByteArray).extract (t + hb) (t + hb + m) = ⟨(r.take m).toArray⟩ := by
    rw [extract_list, HAT.out.2, show t + hb + m - (t + hb) = m by omega]
  have hcv2 : (convert 9 32 (.string ((⟨s.toArray⟩ : ByteArray).extract (t + hb) (t + hb + m)))).run Try.prog w1 = .ok (.slice (some ⟨w1.heap.size, 0, none⟩) m cap) w2 := by rw [hex]; exact hcv
  have HBC := Lib.hid hbc
  have HS2 := Lib.hid (HS.out.step hbl)
  have HTL := Lib.hid htl
  obtain ⟨⟨d0, d1, d2, d3, d4⟩, y0, y1, y2, y3, y4⟩ := five_cells HS2.out.blk
  have HSZ := Lib.hid hs2
  clear c0 c1 c2 c3 c4 z0 z1 z2 z3 z4 hcv hbc hbl htl hex hs2
  go_wp2_with fail
  obtain ⟨r0, r1, r2, r3, r4⟩ := set5_cells d0 d1 d2 d3 d4 (.int .i64 1) (.int .u64 0) (.slice (some ⟨w1.heap.size, 0, none⟩) m cap) (.float .f64 0) (.slice none 0 0)
  unfold set5 at r0 r1 r2 r3 r4
  have hx := RStart.reads (w := w) (w1 := w2) (n := n + 1) (x := .mk 1 0 (r.take m) 0 []) (v0 := .int .i64 1) (v1 := .int .u64 0) (v2 := .slice (some ⟨w1.heap.size, 0, none⟩) m cap) (v3 := .float .f64 0) (v4 := .slice none 0 0)
    ⟨_, _, rfl, by omega, by omega, by have := HTL.out; omega, by simp, HBC.out.kept (fun k hk => ⟨by have := HS.out.size; omega, rfl⟩), Or.inl ⟨rfl, rfl⟩⟩
  have e2 : ((t + hb + m : Nat) : Int) = (t : Int) + hb + m := by omega
  refine bodyPost_ret (v := .tuple #[.agg #[.int .i64 1, .int .u64 0, .slice (some ⟨w1.heap.size, 0, none⟩) m cap, .float .f64 0, .slice none 0 0], .int .i64 ((t + hb + m : Nat) : Int), .int .i64 0]) ?_ rfl
    ⟨_, t + hb + m, rfl, by omega, htt, by rw [← List.drop_drop, HAT.out.2], hx, HS2.out.fin _ _ _ _ _⟩
  rw [e2]
  simp [results, Try.results89, go_sem, r0, r1, r2, r3, r4]
set_option maxRecDepth 100000 in
set_option maxHeartbeats 1000000 in
theorem rvalue_real0 (n : Nat) (s r : List UInt8) (t a m : Nat) (w : World) (ha : a < 16) (hl : s.length ≤ 1048576) (ht : t ≤ s.length) (hh : headD (s.drop t) = .ok (2, m, r)) (h8 : r.length < 8) :
    Calls Try.prog 89 #[.string ⟨s.toArray⟩, .int .i64 t, .int .i64 (a + 1 : Nat)] w (RValGives s t w (n + 1) (.error 20)) := by
  have hst := run_storeF
  have HH := rhead_all s t (w.alloc (.cells #[.int .i64 0, .int .u64 0, .slice none 0 0, .float .f64 0, .slice none 0 0] 82)) hl
  have HAT := Lib.hid (head_at ht hh)
  rw [hh] at HH
  have H := Lib.hid HH
  have htt : t + (headB 2 m).length ≤ s.length := by have := HAT.out.1; omega
  have hlt : (s.length : Int) - ((t : Int) + (headB 2 m).length) < 8 := by have := HAT.out.1; omega
  clear HH hh h8
  go_enter Try.func89, Try.ntmps89
  go_wp2_with fail
  refine H.out.mono ?_
  rintro e w1 ⟨rfl, _, hm, hb1⟩
  generalize (headB 2 m).length = hb at *
  have HS := Lib.hid (RStart.of hb1)
  obtain ⟨⟨c0, c1, c2, c3, c4⟩, z0, z1, z2, z3, z4⟩ := five_cells HS.out.blk
  clear hb1 hm
  go_wp2_with fail
  obtain ⟨r0, r1, r2, r3, r4⟩ := set5_cells c0 c1 c2 c3 c4 (.int .i64 0) (.int .u64 0) (.slice none 0 0) (.float .f64 0) (.slice none 0 0)
  unfold set5 at r0 r1 r2 r3 r4
  exact bodyPost_ret (v := .tuple #[.agg #[.int .i64 0, .int .u64 0, .slice none 0 0, .float .f64 0, .slice none 0 0], .int .i64 ((t + hb : Nat) : Int), .int .i64 20]) (by simp [results, Try.results89, go_sem, r0, r1, r2, r3, r4]) rfl
    ⟨t + hb, rfl, by decide, HS.out.fin _ _ _ _ _⟩
theorem rest_at {s r : List UInt8} {i k : Nat} (h : s.drop i = r) (hk : k < r.length) : ∃ h2 : i + k < s.length, s[i + k] = r[k] := by
  subst h
  rw [List.length_drop] at hk
  exact ⟨by omega, by simp⟩
set_option maxRecDepth 100000 in
set_option maxHeartbeats 2000000 in
theorem rvalue_real1 (n : Nat) (s r : List UInt8) (t a m : Nat) (w : World) (ha : a < 16) (hl : s.length ≤ 1048576) (ht : t ≤ s.length) (hh : headD (s.drop t) = .ok (2, m, r)) (h8 : 8 ≤ r.length) :
    Calls Try.prog 89 #[.string ⟨s.toArray⟩, .int .i64 t, .int .i64 (a + 1 : Nat)] w (RValGives s t w (n + 1) (match floatD m r with
        | .ok (f, r') => .ok (.mk 2 0 [] f [], r')
        | .error c => .error c)) := by
  have hst := run_storeF
  have HH := rhead_all s t (w.alloc (.cells #[.int .i64 0, .int .u64 0, .slice none 0 0, .float .f64 0, .slice none 0 0] 82)) hl
  have HAT := Lib.hid (head_at ht hh)
  rw [hh] at HH
  have H := Lib.hid HH
  have htt : t + (headB 2 m).length + 8 ≤ s.length := by have := HAT.out.1; omega
  have HR8 := Lib.hid h8
  have HD : Hid (floatD m r = if m ≠ 0 ∨ canonB (beN (r.take 8)) ≠ beN (r.take 8) then .error 22 else .ok (beN (r.take 8), r.drop 8)) := Lib.hid (by unfold floatD; rw [if_neg (by omega)])
  generalize floatD m r = x at *
  clear HH hh h8
  go_enter Try.func89, Try.ntmps89
  go_wp2_with fail
  refine H.out.mono ?_
  rintro e w1 ⟨rfl, _, hm, hb1⟩
  generalize (headB 2 m).length = hb at *
  have HS := Lib.hid (RStart.of hb1)
  have HM := Lib.hid hm
  clear hb1 hm
  go_wp2_with fail
  go_loopw [13, 14] (fun b i wr => ∃ k : Nat, k ≤ 8 ∧ i = .int .i64 k ∧ b = .int .u64 (beN (r.take k)) ∧ wr = w1) (fun _ i _ => 8 - (intOf i).toNat)
  case atStart => exact ⟨0, by omega, rfl, rfl, rfl⟩
  case round =>
    obtain ⟨k, hk, rfl, rfl, rfl⟩ := hrel
    by_cases h8 : k < 8
    · obtain ⟨hik, hrk⟩ := rest_at (k := k) HAT.out.2 (by have := HR8.out; omega)
      have hkr : k < r.length := by have := HR8.out; omega
      have HB := Lib.hid (beN_snoc (r.take k) (r[k]))
      have HTK : Hid (r.take (k + 1) = r.take k ++ [r[k]]) := Lib.hid (List.take_succ_eq_append_getElem hkr)
      have hbl : beN (r.take k) < 72057594037927936 := by
        have := beN_lt 7 (r.take k) (by rw [List.length_take]; omega)
        simpa using this
      have hid := idx_eq s (t + hb + k) hik
      rw [hrk] at hid
      have hc256 := ((⟨s.toArray⟩ : ByteArray)[t + hb + k]'(idx_lt hik)).toNat_lt
      have HID := Lib.hid hid
      clear hid hrk
      generalize hbx : beN (r.take k) = bx at *
      have HBX := Lib.hid hbx
      clear hbx
      go_wp2_with fail
      go_roundw
      case rel => exact ⟨k + 1, by omega, by go_num, congrArg (Value.int .u64) (by rw [HTK.out, HB.out, HID.out]; push_cast; rfl), trivial⟩
      case measure => simp [intOf]; omega
    · have hk8 : k = 8 := by omega
      subst hk8
      have hbl : beN (r.take 8) < 18446744073709551616 := by
        have := beN_lt 8 (r.take 8) (by rw [List.length_take]; omega)
        simpa using this
      have HBL := Lib.hid hbl
      have e2 : ((t + hb + 8 : Nat) : Int) = (t : Int) + hb + 8 := by omega
      have HE2 := Lib.hid e2
      clear hbl e2
      obtain ⟨⟨c0, c1, c2, c3, c4⟩, z0, z1, z2, z3, z4⟩ := five_cells HS.out.blk
      generalize beN (r.take 8) = bx at *
      have h36 := fb36 bx
      have HCN := Lib.hid (rbits_any bx)
      by_cases hm0 : m = 0
      · subst hm0
        by_cases hcb : canonB bx = bx
        · have hx := HD.out
          rw [if_neg (by intro h; rcases h with h | h; exact h rfl; exact h hcb)] at hx
          rw [hcb] at HCN
          clear HD hcb
          subst hx
          go_wp2_with fail
          refine (HCN.out _).mono ?_
          rintro e w' ⟨rfl, rfl⟩
          go_wp2_with fail
          obtain ⟨r0, r1, r2, r3, r4⟩ := set5_cells c0 c1 c2 c3 c4 (.int .i64 2) (.int .u64 0) (.slice none 0 0) (.float .f64 bx) (.slice none 0 0)
          unfold set5 at r0 r1 r2 r3 r4
          have hx := RStart.reads (w := w) (w1 := wr) (n := n + 1) (x := .mk 2 0 [] bx []) (v0 := .int .i64 2) (v1 := .int .u64 0) (v2 := .slice none 0 0) (v3 := .float .f64 bx) (v4 := .slice none 0 0)
            ⟨_, _, rfl, by omega, HBL.out, by simp, by simp, Or.inl ⟨rfl, rfl⟩, Or.inl ⟨rfl, rfl⟩⟩
          refine bodyPost_ret (v := .tuple #[.agg #[.int .i64 2, .int .u64 0, .slice none 0 0, .float .f64 bx, .slice none 0 0], .int .i64 ((t + hb + 8 : Nat) : Int), .int .i64 0]) ?_ rfl
            ⟨_, t + hb + 8, rfl, by omega, htt, by rw [← List.drop_drop, HAT.out.2], hx, HS.out.fin _ _ _ _ _⟩
          rw [HE2.out]
          simp [results, Try.results89, go_sem, r0, r1, r2, r3, r4]
        · have hx := HD.out
          rw [if_pos (Or.inr hcb)] at hx
          have hne : ((canonB bx : Int) == (bx : Int)) = false := by rw [beq_eq_false_iff_ne]; omega
          generalize canonB bx = cb at *
          clear HD hcb
          subst hx
          go_wp2_with fail
          refine (HCN.out _).mono ?_
          rintro e w' ⟨rfl, rfl⟩
          go_wp2_with fail
          obtain ⟨r0, r1, r2, r3, r4⟩ := set5_cells c0 c1 c2 c3 c4 (.int .i64 0) (.int .u64 0) (.slice none 0 0) (.float .f64 0) (.slice none 0 0)
          unfold set5 at r0 r1 r2 r3 r4
          exact bodyPost_ret (v := .tuple #[.agg #[.int .i64 0, .int .u64 0, .slice none 0 0, .float .f64 0, .slice none 0 0], .int .i64 ((t + hb : Nat) : Int), .int .i64 22]) (by simp [results, Try.results89, go_sem, r0, r1, r2, r3, r4]) rfl
            ⟨t + hb, rfl, by decide, HS.out.fin _ _ _ _ _⟩
      · have hm1 : ((m : Int) == 0) = false := by rw [beq_eq_false_iff_ne]; omega
        have hx := HD.out
        rw [if_pos (Or.inl hm0)] at hx
        clear HD
        subst hx
        go_wp2_with fail
        obtain ⟨r0, r1, r2, r3, r4⟩ := set5_cells c0 c1 c2 c3 c4 (.int .i64 0) (.int .u64 0) (.slice none 0 0) (.float .f64 0) (.slice none 0 0)
        unfold set5 at r0 r1 r2 r3 r4
        exact bodyPost_ret (v := .tuple #[.agg #[.int .i64 0, .int .u64 0, .slice none 0 0, .float .f64 0, .slice none 0 0], .int .i64 ((t + hb : Nat) : Int), .int .i64 22]) (by simp [results, Try.results89, go_sem, r0, r1, r2, r3, r4]) rfl
          ⟨t + hb, rfl, by decide, HS.out.fin _ _ _ _ _⟩
theorem rvalue_real (n : Nat) (s r : List UInt8) (t a m : Nat) (w : World) (ha : a < 16) (hl : s.length ≤ 1048576) (ht : t ≤ s.length) (hh : headD (s.drop t) = .ok (2, m, r)) :
    Calls Try.prog 89 #[.string ⟨s.toArray⟩, .int .i64 t, .int .i64 (a + 1 : Nat)] w (RValGives s t w (n + 1) (match floatD m r with
        | .ok (f, r') => .ok (.mk 2 0 [] f [], r')
        | .error c => .error c)) := by
  by_cases h8 : r.length < 8
  · have e : floatD m r = .error 20 := by unfold floatD; rw [if_pos h8]
    rw [e]; exact rvalue_real0 n s r t a m w ha hl ht hh h8
  · exact rvalue_real1 n s r t a m w ha hl ht hh (by omega)
end Go.Proofs.Ytdolonkeanlaoaa
