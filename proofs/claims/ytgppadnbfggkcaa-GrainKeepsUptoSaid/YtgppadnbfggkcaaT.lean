/- Contracts: read, and Decode. -/
import Derived.Test.YtgppadnbfggkcaaS
import Derived.Test.YtgppadnbfggkcaaG
namespace Go.Proofs.Ytgppadnbfggkcaa
open Go.RowKit

/-- What Decode answers. -/
def decR (l : List UInt8) : Except Int Val :=
  if 1048576 < l.length then .error 2 else match valD 16 l with
    | .ok (x, []) => .ok x
    | .ok (_, _ :: _) => .error 23
    | .error c => .error c
def ReadGives (w : World) (r : Except Int Val) (e : Ending) (w' : World) : Prop :=
  match r with
  | .ok x => ∃ v, e = .returned v ∧ ReadsS (fun k => w.heap.size ≤ k ∧ k < w'.heap.size) w' 16 v x ∧ Below w.heap.size w w'
  | .error c => Panics w.heap.size w c e w'
theorem BytesC.alloc {S : Nat → Prop} {w : World} {v : Value} {l : List UInt8} (h : BytesC S w v l) (hS : ∀ k, S k → k < w.heap.size) (o : Obj) : BytesC S (w.alloc o) v l :=
  h.kept (fun k hk => ⟨hk, Below.heap_alloc w o k (hS k hk)⟩)
theorem rest_start {S : Nat → Prop} {w : World} {v : Value} {l : List UInt8} {o : Obj} (hS : ∀ k, S k → k < w.heap.size) (h : BytesC S w v l) :
    RestAt S (w.heap.size + 1) ((w.alloc o).alloc (.cells #[v] 65)) l := by
  have hb : ((w.alloc o).alloc (.cells #[v] 65)).heap[w.heap.size + 1]? = some (.cells #[v] 65 (0, 0)) := by
    have := new_five (w.alloc o) #[v] 65
    simpa using this
  refine ⟨v, cell_of_one hb, free_of_one hb, (h.alloc hS _).alloc (fun k hk => by have := hS k hk; simp; omega) _, fun hk => by have := hS _ hk; omega, fun k hk => by have := hS k hk; simp; omega, by simp⟩
theorem of_below {w w' : World} (h : Below w.heap.size w w') : w.grownBy w' none := ⟨h.os, h.tape, h.output, h.size, fun k hk _ => h.block k hk⟩
theorem below_of {w w' : World} (h : w.grownBy w' none) : Below w.heap.size w w' := ⟨h.os, h.tape, h.output, h.size, fun k hk => h.block k hk (by simp)⟩
set_option maxRecDepth 100000 in
set_option maxHeartbeats 1000000 in
theorem read_long (S : Nat → Prop) (v : Value) (l : List UInt8) (w : World) (hb : BytesC S w v l) (hl : 1048576 < l.length) :
    Calls Try.prog 25 #[v] w (Panics w.heap.size w 2) := by
  rcases hb with ⟨rfl, rfl⟩ | ⟨a, cap, rfl, _, _⟩
  · simp at hl
  · go_enter Try.func25, Try.ntmps25
    go_wp2
    exact ⟨rfl, rfl, (Below.refl _ _).alloc (Nat.le_refl _) _, by simp⟩
set_option maxRecDepth 100000 in
set_option maxHeartbeats 1000000 in
theorem read_fit (S : Nat → Prop) (v : Value) (l : List UInt8) (w : World) (hS : ∀ k, S k → k < w.heap.size) (hb : BytesC S w v l) (hl : l.length ≤ 1048576) :
    Calls Try.prog 25 #[v] w (ReadGives w (match valD 16 l with
      | .ok (x, []) => .ok x
      | .ok (_, _ :: _) => .error 23
      | .error c => .error c)) := by
  have hst := run_storeF
  have hv := value_ok 16 S (w.heap.size + 1) l 0 _ (by omega) hl (rest_start (o := .cells #[.int .i64 0, .int .u64 0, .slice none 0 0, .float .f64 0, .slice none 0 0] 27) hS hb)
  obtain ⟨sa, sc, rfl⟩ := hb.shape
  have HV := Lib.hid hv
  clear hv hb
  generalize hy : valD 16 l = y at *
  clear hy
  cases y with
  | error c =>
    go_enter Try.func25, Try.ntmps25
    go_wp2_with fail
    refine HV.out.mono ?_
    rintro e w2 ⟨rfl, hg⟩
    go_wp2_with fail
    have hbl := kb_below (B := w.heap.size) hg (by omega) (by simp; omega)
    have hb2 := (((Below.refl _ w).alloc (Nat.le_refl _) _).alloc (by simp) _).trans hbl
    exact ⟨rfl, rfl, hb2, hb2.size⟩
  | ok p =>
    obtain ⟨x, r⟩ := p
    go_enter Try.func25, Try.ntmps25
    go_wp2_with fail
    refine HV.out.mono ?_
    rintro e w2 ⟨v2, rfl, hx, ⟨rv, hrc, hrf, hrb, _⟩, hg⟩
    have hs2 := hg.size
    simp at hs2
    have hbl : Below w.heap.size w w2 := (((Below.refl _ w).alloc (Nat.le_refl _) _).alloc (by simp) _).trans (kb_below (B := w.heap.size) hg (by omega) (by simp; omega))
    obtain ⟨k', u', b', f', l'⟩ := x
    obtain ⟨a1, n1, p1, a2, n2, p2, rfl⟩ := hx.shape
    obtain ⟨ra, rc, rfl⟩ := hrb.shape
    have hblk : w2.heap[w.heap.size]? = _ := (hg.block w.heap.size (by simp; omega) (fun e => by injection e with e; omega)).trans ((Below.heap_alloc _ _ _ (by simp)).trans (new_five w _ _))
    obtain ⟨⟨c0, c1, c2, c3, c4⟩, z0, z1, z2, z3, z4⟩ := five_cells ((Below.heap_alloc w2 (.cells #[.int .i64 k', .int .u64 u', .slice a1 n1 p1, .float .f64 f', .slice a2 n2 p2] 27) _ (by omega)).trans hblk)
    have HX := Lib.hid hx
    have HB := Lib.hid hbl
    clear hx hg hbl hrb hblk hrf
    cases r with
    | nil =>
      go_wp2_with fail
      obtain ⟨r0, r1, r2, r3, r4⟩ := set5_cells c0 c1 c2 c3 c4 (.int .i64 k') (.int .u64 u') (.slice a1 n1 p1) (.float .f64 f') (.slice a2 n2 p2)
      have hb3 := set5_grown (b := w.heap.size) (row := none) (kb_alloc (of_below HB.out) (.cells #[.int .i64 k', .int .u64 u', .slice a1 n1 p1, .float .f64 f', .slice a2 n2 p2] 27)) (Nat.le_refl _) (.int .i64 k') (.int .u64 u') (.slice a1 n1 p1) (.float .f64 f') (.slice a2 n2 p2)
      have hx3 := ReadsS.kept (S' := fun k => w.heap.size ≤ k ∧ k < w2.heap.size + 1) (w' := set5 (w2.alloc (.cells #[.int .i64 k', .int .u64 u', .slice a1 n1 p1, .float .f64 f', .slice a2 n2 p2] 27)) w.heap.size (.int .i64 k') (.int .u64 u') (.slice a1 n1 p1) (.float .f64 f') (.slice a2 n2 p2))
        (fun k hk => by simp at hk; exact ⟨⟨by omega, by omega⟩, (set5_block _ _ _ _ _ _ _ _ (by omega)).trans (Below.heap_alloc _ _ _ hk.2)⟩) 16 _ _ HX.out
      have hs3 : ∀ (v0 v1 v2 v3 v4 : Value), (set5 (w2.alloc (.cells #[.int .i64 k', .int .u64 u', .slice a1 n1 p1, .float .f64 f', .slice a2 n2 p2] 27)) w.heap.size v0 v1 v2 v3 v4).heap.size = w2.heap.size + 1 := by
        intro v0 v1 v2 v3 v4; rw [set5_size]; simp
      rw [← hs3 (.int .i64 k') (.int .u64 u') (.slice a1 n1 p1) (.float .f64 f') (.slice a2 n2 p2)] at hx3
      unfold set5 at r0 r1 r2 r3 r4
      exact bodyPost_ret (v := .agg #[.int .i64 k', .int .u64 u', .slice a1 n1 p1, .float .f64 f', .slice a2 n2 p2]) (by simp [results, Try.results25, go_sem, r0, r1, r2, r3, r4]) rfl ⟨_, rfl, hx3, below_of hb3⟩
    | cons c r =>
      go_wp2_with fail
      exact ⟨rfl, rfl, HB.out.alloc (by omega) _, by simp; omega⟩
theorem read_any (S : Nat → Prop) (v : Value) (l : List UInt8) (w : World) (hS : ∀ k, S k → k < w.heap.size) (hb : BytesC S w v l) : Calls Try.prog 25 #[v] w (ReadGives w (decR l)) := by
  unfold decR
  by_cases hl : 1048576 < l.length
  · rw [if_pos hl]; exact read_long S v l w hb hl
  · rw [if_neg hl]; exact read_fit S v l w hS hb (by omega)
end Go.Proofs.Ytgppadnbfggkcaa
