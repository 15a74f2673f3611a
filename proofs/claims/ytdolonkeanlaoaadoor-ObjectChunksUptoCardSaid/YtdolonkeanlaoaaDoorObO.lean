/- The faces GetChunk, GetTree, which catch what their inner parts give up by. -/
import Derived.Test.YtdolonkeanlaoaaDoorObN
import Derived.Defers
import Derived.Recover
namespace Go.Proofs.YtdolonkeanlaoaaDoor
open Go.RowKit

/-- What a face answers. -/
def FaceR {α : Type} (V : World → Value → α → Prop) (z : Value) (w : World) (r : Except Int α) (e : Ending) (w' : World) : Prop :=
  match r with
  | .ok x => ∃ v, e = .returned (.tuple #[v, .int .i64 0]) ∧ V w' v x ∧ Below w.heap.size w w'
  | .error c => e = .returned (.tuple #[z, .int .i64 c]) ∧ Below w.heap.size w w'
set_option maxHeartbeats 400000 in
theorem ocode_any (c : Int) (w : World) :
    Calls Tryd.prog 20 #[.iface 24 (.int .i64 c)] w fun e w' => e = .returned (.int .i64 c) ∧ w = w' := by
  have hta : ∀ w, (Instr.typeAssert (.iface 24 (.int .i64 c)) 20 24 true).run Tryd.prog w = .ok (.tuple #[.int .i64 c, .bool true]) w := fun _ => by kernel_rfl
  go_enter Tryd.func20, Tryd.ntmps20
  go_wp2
  go_ret
  exact ⟨rfl, rfl⟩
def ByteV (w w' : World) (v : Value) (b : List UInt8) : Prop := BytesC (NewS w w') w' v b
set_option maxHeartbeats 400000 in
theorem gchunk_idle (p q : Addr) (w : World) :
    CallsD Tryd.prog 19 #[.pointer (some p), .pointer (some q)] .returning w fun e u' w' => e = .returned (.tuple #[]) ∧ u' = .returning ∧ w' = w := by
  refine callsD_of_wpS Tryd.func19 rfl fun c₀ cs hu => ?_
  apply wpS_seq
  apply wpS_region
  simp [wpOpsS, go_sem, recoverD, hu, Tryd.ntmps19, Exit.thenS]
  refine wpS_of_wp ?_
  go_wp2
  cases c₀
  simp_all [bodyPostS, results, Tryd.results19]
set_option maxRecDepth 100000 in
set_option maxHeartbeats 1600000 in
theorem gchunk_panicking (p q : Addr) (c : Int) (x y : Value) (older : List PanicEntry) (w : World) (hp : w.cell? p = some x) (hzp : w.frozen? p = false)
    (hq : (w.setCell p (.slice none 0 0)).cell? q = some y) (hzq : (w.setCell p (.slice none 0 0)).frozen? q = false) :
    CallsD Tryd.prog 19 #[.pointer (some p), .pointer (some q)] (.panicking ({ v := .iface 24 (.int .i64 c), recovered := false } :: older)) w fun e u' w' =>
      e = .returned (.tuple #[]) ∧ u' = .panicking ({ v := .iface 24 (.int .i64 c), recovered := true } :: older) ∧ w' = (w.setCell p (.slice none 0 0)).setCell q (.int .i64 c) := by
  refine callsD_of_wpS Tryd.func19 rfl fun c₀ cs hu => ?_
  have HP := Lib.hid hp
  have HQ := Lib.hid hq
  have HZP := Lib.hid hzp
  have HZQ := Lib.hid hzq
  clear hp hq hzp hzq
  apply wpS_seq
  apply wpS_region
  simp [wpOpsS, go_sem, recoverD, hu, Tryd.ntmps19, Exit.thenS]
  have HU := Lib.hid hu
  clear hu
  rw [show (#[Value.pointer (some p), Value.pointer (some q)] ++ ((Array.replicate 6 undef).setIfInBounds 1 (Value.iface 24 (Value.int IntKind.i64 c))).setIfInBounds 0 (Value.iface 24 (Value.int IntKind.i64 c)) : Array Value)
    = #[.pointer (some p), .pointer (some q), .iface 24 (.int .i64 c), .iface 24 (.int .i64 c), undef, undef, undef, undef] from rfl]
  generalize hc1 : { c₀ with mode := FrameMode.panicking ({ v := Value.iface 24 (Value.int IntKind.i64 c), recovered := true, goexit := false } :: older) } = c1
  have HC := Lib.hid hc1
  clear hc1
  refine wpS_of_wp ?_
  generalize hq : (fun e a' w' => bodyPostS Tryd.prog Tryd.f19 c₀ cs (fun e u' w' =>
      e = Ending.returned (Value.tuple #[]) ∧
        u' = FrameMode.panicking ({ v := Value.iface 24 (Value.int IntKind.i64 c), recovered := true } :: older) ∧
          w' = (w.setCell p (.slice none 0 0)).setCell q (.int .i64 c)) e a' (c1 :: cs) w') = Q
  have HQQ := Lib.hid hq
  clear hq
  have hp := HP.out
  have hq := HQ.out
  have hzp := HZP.out
  have hzq := HZQ.out
  go_wp2_with fail
  refine (ocode_any c _).mono ?_
  rintro e w' ⟨rfl, rfl⟩
  go_wp2
  have e := HQQ.out
  subst e
  have e1 := HC.out
  subst e1
  cases c₀
  simp [bodyPostS, results, Tryd.results19]
set_option maxRecDepth 100000 in
set_option maxHeartbeats 1600000 in
theorem gchunk_any (S : Nat → Prop) (v : Value) (l : List UInt8) (w : World) (hS : ∀ k, S k → k < w.heap.size) (hb : BytesC S w v l) :
    Calls Tryd.prog 7 #[v] w (FaceR (ByteV w) (.slice none 0 0) w (chunkR l)) := by
  have hmf : ∀ (fn : Fn) (first cap : Array Value) (w : World), (Instr.makeFunc fn first cap).run Tryd.prog w = .ok (.func fn first cap) w := fun _ _ _ _ => rfl
  obtain ⟨W, hW⟩ : ∃ W, W = ((w.alloc (.cells #[.slice none 0 0] 22)).alloc (.cells #[.int .i64 0] 24)) := ⟨_, rfl⟩
  have hB2 : Below w.heap.size w W := by rw [hW]; exact ((Below.refl _ _).alloc (Nat.le_refl _) _).alloc (by simp) _
  have hz : W.heap.size = w.heap.size + 2 := by rw [hW]; simp
  have hw := rchunk_any S v l W (fun k hk => by have := hS k hk; omega) (hb.kept (fun k hk => ⟨hk, hB2.block k (hS k hk)⟩))
  have ht := two_blocks w #[.slice none 0 0] (.int .i64 0) 22 24
  rw [← hW] at ht
  have HT := Lib.hid ht
  have HB := Lib.hid hB2
  have HZ := Lib.hid hz
  have HV := Lib.hid (fun (W1 W3 : World) (u : Value) x (h : ByteV W W1 u x) (hs : W1.heap.size ≤ W3.heap.size) (HKK : ∀ k, W.heap.size ≤ k → W3.heap[k]? = W1.heap[k]?) => (BytesC.kept (S' := NewS w W3) h (fun k hk => ⟨⟨by have := hk.1; rw [hz] at this; omega, Nat.lt_of_lt_of_le hk.2 hs⟩, HKK k hk.1⟩) : ByteV w W3 u x))
  rw [hW] at hw HV
  have HW := Lib.hid hW
  obtain ⟨sa, sc, rfl⟩ := hb.shape
  clear hB2 hz hb hW ht hS
  generalize chunkR l = r at *
  cases r with
  | error c =>
    have HWR := Lib.hid hw
    clear hw
    go_enter_defers Tryd.func7, Tryd.ntmps7
    go_wp2_with fail
    refine HWR.out.mono ?_
    rintro e w1 ⟨rfl, hb⟩
    go_wp2
    rw [← HW.out] at hb
    obtain ⟨t0, t1⟩ := HT.out
    have hz := HZ.out
    have k0 := (hb.block w.heap.size (by omega)).trans t0
    have k1 := (hb.block (w.heap.size + 1) (by omega)).trans t1
    have hc0 := cell_of_one k0
    have hz0 := free_of_one k0
    have hc1 := cell_of_one k1
    have hz1 := free_of_one k1
    obtain ⟨c0, c1⟩ := put_two (w := w1) (p := ⟨w.heap.size, 0, none⟩) (q := ⟨w.heap.size + 1, 0, none⟩) (by simp) hc0 hc1 (.slice none 0 0) (.int .i64 c)
    refine leaves_cons (f := 19) (args := #[.pointer (some ⟨w.heap.size, 0, none⟩), .pointer (some ⟨w.heap.size + 1, 0, none⟩)]) (by simp) (by simp [go_sem]) ?_
    refine (gchunk_panicking ⟨w.heap.size, 0, none⟩ ⟨w.heap.size + 1, 0, none⟩ c (.slice none 0 0) (.int .i64 0) [] _ hc0 hz0 ?_ ?_).mono ?_
    · rw [World.cell?_setCell_other _ _ _ _ (by simp)]; exact hc1
    · simpa [go_sem] using hz1
    rintro e u' w'' ⟨rfl, rfl, rfl⟩
    have hb3 := HB.out.trans (hb.mono HB.out.size)
    have hb4 : Below w.heap.size w ((w1.setCell ⟨w.heap.size, 0, none⟩ (.slice none 0 0)).setCell ⟨w.heap.size + 1, 0, none⟩ (.int .i64 c)) := (hb3.setCell (by simp) _).setCell (by simp) _
    generalize (w1.setCell ⟨w.heap.size, 0, none⟩ (.slice none 0 0)).setCell ⟨w.heap.size + 1, 0, none⟩ (.int .i64 c) = w3 at *
    simp [Leaves, settle, results, Tryd.results7, go_sem, c0, c1, FaceR]
    exact hb4
  | ok x =>
    have HWR := Lib.hid hw
    clear hw
    go_enter_defers Tryd.func7, Tryd.ntmps7
    go_wp2_with fail
    refine HWR.out.mono ?_
    rintro e w1 ⟨u, rfl, hV, hb⟩
    obtain ⟨ua, un, uc, rfl⟩ : ∃ a n c, u = .slice a n c := by obtain ⟨a, c, h⟩ := BytesC.shape hV; exact ⟨a, _, c, h⟩
    have HV1 := Lib.hid (HV.out w1 ((w1.setCell ⟨w.heap.size, 0, none⟩ (.slice ua un uc)).setCell ⟨w.heap.size + 1, 0, none⟩ (.int .i64 0)) _ x hV (by simp) (fun k hk => by
      rw [← HW.out] at hk
      have hz := HZ.out
      exact (Below.heap_setCell _ _ _ _ (by simp; omega)).trans (Below.heap_setCell _ _ _ _ (by simp; omega))))
    rw [← HW.out] at hb
    obtain ⟨t0, t1⟩ := HT.out
    have hz := HZ.out
    have k0 := (hb.block w.heap.size (by omega)).trans t0
    have k1 := (hb.block (w.heap.size + 1) (by omega)).trans t1
    have hc0 := cell_of_one k0
    have hz0 := free_of_one k0
    have hc1 := cell_of_one k1
    have hz1 := free_of_one k1
    obtain ⟨c0, c1⟩ := put_two (w := w1) (p := ⟨w.heap.size, 0, none⟩) (q := ⟨w.heap.size + 1, 0, none⟩) (by simp) hc0 hc1 (.slice ua un uc) (.int .i64 0)
    have hb3 := HB.out.trans (hb.mono HB.out.size)
    have hb4 : Below w.heap.size w ((w1.setCell ⟨w.heap.size, 0, none⟩ (.slice ua un uc)).setCell ⟨w.heap.size + 1, 0, none⟩ (.int .i64 0)) := (hb3.setCell (by simp) _).setCell (by simp) _
    have C0 := Lib.hid c0
    have C1 := Lib.hid c1
    have B4 := Lib.hid hb4
    clear c0 c1 hb4 hb3 t0 t1 hb k0 k1 hV hz HT HWR HB
    go_wp2
    refine leaves_cons (f := 19) (args := #[.pointer (some ⟨w.heap.size, 0, none⟩), .pointer (some ⟨w.heap.size + 1, 0, none⟩)]) (by simp) (by simp [go_sem]) ?_
    refine (gchunk_idle ⟨w.heap.size, 0, none⟩ ⟨w.heap.size + 1, 0, none⟩ _).mono ?_
    rintro e u' w'' ⟨rfl, rfl, rfl⟩
    have c0 := C0.out
    have c1 := C1.out
    have b4 := B4.out
    have v4 := HV1.out
    clear C0 C1 B4 HV1
    generalize (w1.setCell ⟨w.heap.size, 0, none⟩ (.slice ua un uc)).setCell ⟨w.heap.size + 1, 0, none⟩ (.int .i64 0) = w3 at *
    simp [Leaves, settle, results, Tryd.results7, go_sem, c0, c1, FaceR]
    exact ⟨v4, b4⟩
set_option maxHeartbeats 400000 in
theorem gtree_idle (p q : Addr) (w : World) :
    CallsD Tryd.prog 50 #[.pointer (some p), .pointer (some q)] .returning w fun e u' w' => e = .returned (.tuple #[]) ∧ u' = .returning ∧ w' = w := by
  refine callsD_of_wpS Tryd.func50 rfl fun c₀ cs hu => ?_
  apply wpS_seq
  apply wpS_region
  simp [wpOpsS, go_sem, recoverD, hu, Tryd.ntmps50, Exit.thenS]
  refine wpS_of_wp ?_
  go_wp2
  cases c₀
  simp_all [bodyPostS, results, Tryd.results50]
set_option maxRecDepth 100000 in
set_option maxHeartbeats 1600000 in
theorem gtree_panicking (p q : Addr) (c : Int) (x y : Value) (older : List PanicEntry) (w : World) (hp : w.cell? p = some x) (hzp : w.frozen? p = false)
    (hq : (w.setCell p (.slice none 0 0)).cell? q = some y) (hzq : (w.setCell p (.slice none 0 0)).frozen? q = false) :
    CallsD Tryd.prog 50 #[.pointer (some p), .pointer (some q)] (.panicking ({ v := .iface 24 (.int .i64 c), recovered := false } :: older)) w fun e u' w' =>
      e = .returned (.tuple #[]) ∧ u' = .panicking ({ v := .iface 24 (.int .i64 c), recovered := true } :: older) ∧ w' = (w.setCell p (.slice none 0 0)).setCell q (.int .i64 c) := by
  refine callsD_of_wpS Tryd.func50 rfl fun c₀ cs hu => ?_
  have HP := Lib.hid hp
  have HQ := Lib.hid hq
  have HZP := Lib.hid hzp
  have HZQ := Lib.hid hzq
  clear hp hq hzp hzq
  apply wpS_seq
  apply wpS_region
  simp [wpOpsS, go_sem, recoverD, hu, Tryd.ntmps50, Exit.thenS]
  have HU := Lib.hid hu
  clear hu
  rw [show (#[Value.pointer (some p), Value.pointer (some q)] ++ ((Array.replicate 6 undef).setIfInBounds 1 (Value.iface 24 (Value.int IntKind.i64 c))).setIfInBounds 0 (Value.iface 24 (Value.int IntKind.i64 c)) : Array Value)
    = #[.pointer (some p), .pointer (some q), .iface 24 (.int .i64 c), .iface 24 (.int .i64 c), undef, undef, undef, undef] from rfl]
  generalize hc1 : { c₀ with mode := FrameMode.panicking ({ v := Value.iface 24 (Value.int IntKind.i64 c), recovered := true, goexit := false } :: older) } = c1
  have HC := Lib.hid hc1
  clear hc1
  refine wpS_of_wp ?_
  generalize hq : (fun e a' w' => bodyPostS Tryd.prog Tryd.f50 c₀ cs (fun e u' w' =>
      e = Ending.returned (Value.tuple #[]) ∧
        u' = FrameMode.panicking ({ v := Value.iface 24 (Value.int IntKind.i64 c), recovered := true } :: older) ∧
          w' = (w.setCell p (.slice none 0 0)).setCell q (.int .i64 c)) e a' (c1 :: cs) w') = Q
  have HQQ := Lib.hid hq
  clear hq
  have hp := HP.out
  have hq := HQ.out
  have hzp := HZP.out
  have hzq := HZQ.out
  go_wp2_with fail
  refine (ocode_any c _).mono ?_
  rintro e w' ⟨rfl, rfl⟩
  go_wp2
  have e := HQQ.out
  subst e
  have e1 := HC.out
  subst e1
  cases c₀
  simp [bodyPostS, results, Tryd.results50]
set_option maxRecDepth 100000 in
set_option maxHeartbeats 1600000 in
theorem gtree_any (S : Nat → Prop) (v : Value) (l : List UInt8) (w : World) (hS : ∀ k, S k → k < w.heap.size) (hb : BytesC S w v l) :
    Calls Tryd.prog 23 #[v] w (FaceR (EntV w) (.slice none 0 0) w (treeR l)) := by
  have hmf : ∀ (fn : Fn) (first cap : Array Value) (w : World), (Instr.makeFunc fn first cap).run Tryd.prog w = .ok (.func fn first cap) w := fun _ _ _ _ => rfl
  obtain ⟨W, hW⟩ : ∃ W, W = ((w.alloc (.cells #[.slice none 0 0] 46)).alloc (.cells #[.int .i64 0] 24)) := ⟨_, rfl⟩
  have hB2 : Below w.heap.size w W := by rw [hW]; exact ((Below.refl _ _).alloc (Nat.le_refl _) _).alloc (by simp) _
  have hz : W.heap.size = w.heap.size + 2 := by rw [hW]; simp
  have hw := rtree_any S v l W (fun k hk => by have := hS k hk; omega) (hb.kept (fun k hk => ⟨hk, hB2.block k (hS k hk)⟩))
  have ht := two_blocks w #[.slice none 0 0] (.int .i64 0) 46 24
  rw [← hW] at ht
  have HT := Lib.hid ht
  have HB := Lib.hid hB2
  have HZ := Lib.hid hz
  have HV := Lib.hid (fun (W1 W3 : World) (u : Value) x (h : EntV W W1 u x) (hs : W1.heap.size ≤ W3.heap.size) (HKK : ∀ k, W.heap.size ≤ k → W3.heap[k]? = W1.heap[k]?) => (⟨own_base (row_kept h.1 (fun q hq => HKK q (World.ownsRow.lt h.1 q hq).1)) (by omega), h.2⟩ : EntV w W3 u x))
  rw [hW] at hw HV
  have HW := Lib.hid hW
  obtain ⟨sa, sc, rfl⟩ := hb.shape
  clear hB2 hz hb hW ht hS
  generalize treeR l = r at *
  cases r with
  | error c =>
    have HWR := Lib.hid hw
    clear hw
    go_enter_defers Tryd.func23, Tryd.ntmps23
    go_wp2_with fail
    refine HWR.out.mono ?_
    rintro e w1 ⟨rfl, hb⟩
    go_wp2
    rw [← HW.out] at hb
    obtain ⟨t0, t1⟩ := HT.out
    have hz := HZ.out
    have k0 := (hb.block w.heap.size (by omega)).trans t0
    have k1 := (hb.block (w.heap.size + 1) (by omega)).trans t1
    have hc0 := cell_of_one k0
    have hz0 := free_of_one k0
    have hc1 := cell_of_one k1
    have hz1 := free_of_one k1
    obtain ⟨c0, c1⟩ := put_two (w := w1) (p := ⟨w.heap.size, 0, none⟩) (q := ⟨w.heap.size + 1, 0, none⟩) (by simp) hc0 hc1 (.slice none 0 0) (.int .i64 c)
    refine leaves_cons (f := 50) (args := #[.pointer (some ⟨w.heap.size, 0, none⟩), .pointer (some ⟨w.heap.size + 1, 0, none⟩)]) (by simp) (by simp [go_sem]) ?_
    refine (gtree_panicking ⟨w.heap.size, 0, none⟩ ⟨w.heap.size + 1, 0, none⟩ c (.slice none 0 0) (.int .i64 0) [] _ hc0 hz0 ?_ ?_).mono ?_
    · rw [World.cell?_setCell_other _ _ _ _ (by simp)]; exact hc1
    · simpa [go_sem] using hz1
    rintro e u' w'' ⟨rfl, rfl, rfl⟩
    have hb3 := HB.out.trans (hb.mono HB.out.size)
    have hb4 : Below w.heap.size w ((w1.setCell ⟨w.heap.size, 0, none⟩ (.slice none 0 0)).setCell ⟨w.heap.size + 1, 0, none⟩ (.int .i64 c)) := (hb3.setCell (by simp) _).setCell (by simp) _
    generalize (w1.setCell ⟨w.heap.size, 0, none⟩ (.slice none 0 0)).setCell ⟨w.heap.size + 1, 0, none⟩ (.int .i64 c) = w3 at *
    simp [Leaves, settle, results, Tryd.results23, go_sem, c0, c1, FaceR]
    exact hb4
  | ok x =>
    have HWR := Lib.hid hw
    clear hw
    go_enter_defers Tryd.func23, Tryd.ntmps23
    go_wp2_with fail
    refine HWR.out.mono ?_
    rintro e w1 ⟨u, rfl, hV, hb⟩
    obtain ⟨ua, un, uc, rfl⟩ : ∃ a n c, u = .slice a n c := by obtain ⟨a, c, h⟩ := row_shape_any hV.1; exact ⟨a, _, c, h⟩
    have HV1 := Lib.hid (HV.out w1 ((w1.setCell ⟨w.heap.size, 0, none⟩ (.slice ua un uc)).setCell ⟨w.heap.size + 1, 0, none⟩ (.int .i64 0)) _ x hV (by simp) (fun k hk => by
      rw [← HW.out] at hk
      have hz := HZ.out
      exact (Below.heap_setCell _ _ _ _ (by simp; omega)).trans (Below.heap_setCell _ _ _ _ (by simp; omega))))
    rw [← HW.out] at hb
    obtain ⟨t0, t1⟩ := HT.out
    have hz := HZ.out
    have k0 := (hb.block w.heap.size (by omega)).trans t0
    have k1 := (hb.block (w.heap.size + 1) (by omega)).trans t1
    have hc0 := cell_of_one k0
    have hz0 := free_of_one k0
    have hc1 := cell_of_one k1
    have hz1 := free_of_one k1
    obtain ⟨c0, c1⟩ := put_two (w := w1) (p := ⟨w.heap.size, 0, none⟩) (q := ⟨w.heap.size + 1, 0, none⟩) (by simp) hc0 hc1 (.slice ua un uc) (.int .i64 0)
    have hb3 := HB.out.trans (hb.mono HB.out.size)
    have hb4 : Below w.heap.size w ((w1.setCell ⟨w.heap.size, 0, none⟩ (.slice ua un uc)).setCell ⟨w.heap.size + 1, 0, none⟩ (.int .i64 0)) := (hb3.setCell (by simp) _).setCell (by simp) _
    have C0 := Lib.hid c0
    have C1 := Lib.hid c1
    have B4 := Lib.hid hb4
    clear c0 c1 hb4 hb3 t0 t1 hb k0 k1 hV hz HT HWR HB
    go_wp2
    refine leaves_cons (f := 50) (args := #[.pointer (some ⟨w.heap.size, 0, none⟩), .pointer (some ⟨w.heap.size + 1, 0, none⟩)]) (by simp) (by simp [go_sem]) ?_
    refine (gtree_idle ⟨w.heap.size, 0, none⟩ ⟨w.heap.size + 1, 0, none⟩ _).mono ?_
    rintro e u' w'' ⟨rfl, rfl, rfl⟩
    have c0 := C0.out
    have c1 := C1.out
    have b4 := B4.out
    have v4 := HV1.out
    clear C0 C1 B4 HV1
    generalize (w1.setCell ⟨w.heap.size, 0, none⟩ (.slice ua un uc)).setCell ⟨w.heap.size + 1, 0, none⟩ (.int .i64 0) = w3 at *
    simp [Leaves, settle, results, Tryd.results23, go_sem, c0, c1, FaceR]
    exact ⟨v4, b4⟩
end Go.Proofs.YtdolonkeanlaoaaDoor
