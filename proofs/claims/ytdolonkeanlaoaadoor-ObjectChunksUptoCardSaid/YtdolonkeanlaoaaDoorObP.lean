/- The faces GetBlob, GetCommit. -/
import Derived.Test.YtdolonkeanlaoaaDoorObO
namespace Go.Proofs.YtdolonkeanlaoaaDoor
open Go.RowKit
attribute [local simp high] id_size id_zero com_size com_zero n32_ne n36_ne

def BlobV (w w' : World) (v : Value) (x : List (List UInt8) × Nat) : Prop := ∃ vi, v = .agg #[vi, .int .i64 x.2] ∧ IdsV w w' vi x.1 ∧ x.2 ≤ 262144
theorem two_new (c0 c1 : Value) (t : TypeId) {W : World} {b : Nat} (h : W.heap[b]? = some (.cells #[c0, c1] t (0, 0))) : (W.cell? ⟨b, 0, none⟩ = some c0 ∧ W.cell? ⟨b, 1, none⟩ = some c1) ∧ W.frozen? ⟨b, 0, none⟩ = false ∧ W.frozen? ⟨b, 1, none⟩ = false := by
  refine ⟨⟨?_, ?_⟩, ?_, ?_⟩ <;> first | (unfold World.cell?; rw [h]; rfl) | (unfold World.frozen?; rw [h]; rfl)
set_option maxHeartbeats 400000 in
theorem gblob_idle (p q : Addr) (w : World) :
    CallsD Tryd.prog 48 #[.pointer (some p), .pointer (some q)] .returning w fun e u' w' => e = .returned (.tuple #[]) ∧ u' = .returning ∧ w' = w := by
  refine callsD_of_wpS Tryd.func48 rfl fun c₀ cs hu => ?_
  apply wpS_seq
  apply wpS_region
  simp [wpOpsS, go_sem, recoverD, hu, Tryd.ntmps48, Exit.thenS]
  refine wpS_of_wp ?_
  go_wp2
  cases c₀
  simp_all [bodyPostS, results, Tryd.results48]
set_option maxRecDepth 100000 in
set_option maxHeartbeats 1600000 in
theorem gblob_panicking (b b2 : Nat) (hne : b ≠ b2) (c : Int) (x0 x1 y : Value) (older : List PanicEntry) (w : World) (hp : w.heap[b]? = some (.cells #[x0, x1] 60 (0, 0))) (hq : w.heap[b2]? = some (.cells #[y] 24 (0, 0))) :
    CallsD Tryd.prog 48 #[.pointer (some ⟨b, 0, none⟩), .pointer (some ⟨b2, 0, none⟩)] (.panicking ({ v := .iface 24 (.int .i64 c), recovered := false } :: older)) w fun e u' w' =>
      e = .returned (.tuple #[]) ∧ u' = .panicking ({ v := .iface 24 (.int .i64 c), recovered := true } :: older) ∧ w' = ((w.setCell ⟨b, 0, none⟩ (.slice none 0 0)).setCell ⟨b, 1, none⟩ (.int .i64 0)).setCell ⟨b2, 0, none⟩ (.int .i64 c) := by
  refine callsD_of_wpS Tryd.func48 rfl fun c₀ cs hu => ?_
  have hq5 : ((w.setCell ⟨b, 0, none⟩ (.slice none 0 0)).setCell ⟨b, 1, none⟩ (.int .i64 0)).heap[b2]? = some (.cells #[y] 24 (0, 0)) := (Below.heap_setCell _ _ _ _ (by simpa using Ne.symm hne)).trans ((Below.heap_setCell _ _ _ _ (by simpa using Ne.symm hne)).trans hq)
  have HQ := Lib.hid (cell_of_one hq5)
  have HZQ := Lib.hid (free_of_one hq5)
  have HP := Lib.hid (two_new _ _ _ hp)
  clear hp hq hq5
  apply wpS_seq
  apply wpS_region
  simp [wpOpsS, go_sem, recoverD, hu, Tryd.ntmps48, Exit.thenS]
  have HU := Lib.hid hu
  clear hu
  rw [show (#[Value.pointer (some ⟨b, 0, none⟩), Value.pointer (some ⟨b2, 0, none⟩)] ++ ((Array.replicate 7 undef).setIfInBounds 1 (Value.iface 24 (Value.int IntKind.i64 c))).setIfInBounds 0 (Value.iface 24 (Value.int IntKind.i64 c)) : Array Value)
    = #[.pointer (some ⟨b, 0, none⟩), .pointer (some ⟨b2, 0, none⟩), .iface 24 (.int .i64 c), .iface 24 (.int .i64 c), undef, undef, undef, undef, undef] from rfl]
  generalize hc1 : { c₀ with mode := FrameMode.panicking ({ v := Value.iface 24 (Value.int IntKind.i64 c), recovered := true, goexit := false } :: older) } = c1
  have HC := Lib.hid hc1
  clear hc1
  refine wpS_of_wp ?_
  generalize hq : (fun e a' w' => bodyPostS Tryd.prog Tryd.f48 c₀ cs (fun e u' w' =>
      e = Ending.returned (Value.tuple #[]) ∧
        u' = FrameMode.panicking ({ v := Value.iface 24 (Value.int IntKind.i64 c), recovered := true } :: older) ∧
          w' = ((w.setCell ⟨b, 0, none⟩ (.slice none 0 0)).setCell ⟨b, 1, none⟩ (.int .i64 0)).setCell ⟨b2, 0, none⟩ (.int .i64 c)) e a' (c1 :: cs) w') = Q
  have HQQ := Lib.hid hq
  clear hq
  obtain ⟨⟨p0, p1⟩, z0, z1⟩ := HP.out
  have hq := HQ.out
  have hzq := HZQ.out
  go_wp2_with fail
  refine (ocode_any c _).mono ?_
  rintro e w' ⟨rfl, rfl⟩
  go_wp2
  have e := HQQ.out
  subst e
  have e1 := HC.out
  subst e1
  cases c₀
  simp [bodyPostS, results, Tryd.results48]
set_option maxRecDepth 100000 in
set_option maxHeartbeats 1600000 in
theorem gblob_any (S : Nat → Prop) (v : Value) (l : List UInt8) (w : World) (hS : ∀ k, S k → k < w.heap.size) (hb : BytesC S w v l) :
    Calls Tryd.prog 22 #[v] w (FaceR (BlobV w) (.agg #[.slice none 0 0, .int .i64 0]) w (blobR l)) := by
  have hmf : ∀ (fn : Fn) (first cap : Array Value) (w : World), (Instr.makeFunc fn first cap).run Tryd.prog w = .ok (.func fn first cap) w := fun _ _ _ _ => rfl
  obtain ⟨W, hW⟩ : ∃ W, W = ((w.alloc (.cells #[.slice none 0 0, .int .i64 0] 60)).alloc (.cells #[.int .i64 0] 24)) := ⟨_, rfl⟩
  have hB2 : Below w.heap.size w W := by rw [hW]; exact ((Below.refl _ _).alloc (Nat.le_refl _) _).alloc (by simp) _
  have hz : W.heap.size = w.heap.size + 2 := by rw [hW]; simp
  have hw := rblob_any S v l W (fun k hk => by have := hS k hk; omega) (hb.kept (fun k hk => ⟨hk, hB2.block k (hS k hk)⟩))
  have ht := two_blocks w #[.slice none 0 0, .int .i64 0] (.int .i64 0) 60 24
  rw [← hW] at ht
  have HT := Lib.hid ht
  have HB := Lib.hid hB2
  have HZ := Lib.hid hz
  have HV := Lib.hid (fun (W1 W3 : World) (u : Value) x (h : BlobV W W1 u x) (hs : W1.heap.size ≤ W3.heap.size) (HKK : ∀ k, W.heap.size ≤ k → W3.heap[k]? = W1.heap[k]?) => (by obtain ⟨vi, h1, h2, h3⟩ := h; exact ⟨vi, h1, ⟨own_base (row_kept h2.1 (fun q hq => HKK q (World.ownsRow.lt h2.1 q hq).1)) (by omega), h2.2⟩, h3⟩ : BlobV w W3 u x))
  rw [hW] at hw HV
  have HW := Lib.hid hW
  obtain ⟨sa, sc, rfl⟩ := hb.shape
  clear hB2 hz hb hW ht hS
  generalize blobR l = r at *
  cases r with
  | error c =>
    have HWR := Lib.hid hw
    clear hw
    go_enter_defers Tryd.func22, Tryd.ntmps22
    go_wp2_with fail
    refine HWR.out.mono ?_
    rintro e w1 ⟨rfl, hb⟩
    go_wp2
    rw [← HW.out] at hb
    obtain ⟨t0, t1⟩ := HT.out
    have hz := HZ.out
    have k0 := (hb.block w.heap.size (by omega)).trans t0
    have k1 := (hb.block (w.heap.size + 1) (by omega)).trans t1
    obtain ⟨⟨p0, p1⟩, z0, z1⟩ := two_new _ _ _ k0
    refine leaves_cons (f := 48) (args := #[.pointer (some ⟨w.heap.size, 0, none⟩), .pointer (some ⟨w.heap.size + 1, 0, none⟩)]) (by simp) (by simp [go_sem]) ?_
    refine (gblob_panicking w.heap.size (w.heap.size + 1) (by omega) c _ _ _ [] _ k0 k1).mono ?_
    rintro e u' w'' ⟨rfl, rfl, rfl⟩
    have hb3 := HB.out.trans (hb.mono HB.out.size)
    have hb4 : Below w.heap.size w (((w1.setCell ⟨w.heap.size, 0, none⟩ (.slice none 0 0)).setCell ⟨w.heap.size, 1, none⟩ (.int .i64 0)).setCell ⟨w.heap.size + 1, 0, none⟩ (.int .i64 c)) := ((hb3.setCell (by simp) _).setCell (by simp) _).setCell (by simp) _
    have q0 := cell_of_one k1
    have r0 : (((w1.setCell ⟨w.heap.size, 0, none⟩ (.slice none 0 0)).setCell ⟨w.heap.size, 1, none⟩ (.int .i64 0)).setCell ⟨w.heap.size + 1, 0, none⟩ (.int .i64 c)).cell? ⟨w.heap.size, 0, none⟩ = some (.slice none 0 0) := by simp [go_sem, p0]
    have r1 : (((w1.setCell ⟨w.heap.size, 0, none⟩ (.slice none 0 0)).setCell ⟨w.heap.size, 1, none⟩ (.int .i64 0)).setCell ⟨w.heap.size + 1, 0, none⟩ (.int .i64 c)).cell? ⟨w.heap.size, 1, none⟩ = some (.int .i64 0) := by simp [go_sem, p1]
    have r2 : (((w1.setCell ⟨w.heap.size, 0, none⟩ (.slice none 0 0)).setCell ⟨w.heap.size, 1, none⟩ (.int .i64 0)).setCell ⟨w.heap.size + 1, 0, none⟩ (.int .i64 c)).cell? ⟨w.heap.size + 1, 0, none⟩ = some (.int .i64 c) := by simp [go_sem, q0]
    generalize ((w1.setCell ⟨w.heap.size, 0, none⟩ (.slice none 0 0)).setCell ⟨w.heap.size, 1, none⟩ (.int .i64 0)).setCell ⟨w.heap.size + 1, 0, none⟩ (.int .i64 c) = w3 at *
    simp [Leaves, settle, results, Tryd.results22, go_sem, r0, r1, r2, FaceR]
    exact hb4
  | ok x =>
    have HWR := Lib.hid hw
    clear hw
    go_enter_defers Tryd.func22, Tryd.ntmps22
    go_wp2_with fail
    refine HWR.out.mono ?_
    rintro e w1 ⟨u, rfl, hV, hb⟩
    have hV' := hV
    obtain ⟨vi, rfl, hI, hn⟩ := hV
    obtain ⟨ua, uc, rfl⟩ := row_shape_any hI.1
    obtain ⟨ids, n⟩ := x
    obtain ⟨un, hun⟩ : ∃ un, ids.length = un := ⟨_, rfl⟩
    simp only [hun] at hV' ⊢
    have HV1 := Lib.hid (HV.out w1 (((w1.setCell ⟨w.heap.size, 0, none⟩ (.slice ua un uc)).setCell ⟨w.heap.size, 1, none⟩ (.int .i64 n)).setCell ⟨w.heap.size + 1, 0, none⟩ (.int .i64 0)) (.agg #[.slice ua un uc, .int .i64 n]) (ids, n) hV' (by simp) (fun k hk => by
      rw [← HW.out] at hk
      have hz := HZ.out
      exact (Below.heap_setCell _ _ _ _ (by simp; omega)).trans ((Below.heap_setCell _ _ _ _ (by simp; omega)).trans (Below.heap_setCell _ _ _ _ (by simp; omega)))))
    rw [← HW.out] at hb
    obtain ⟨t0, t1⟩ := HT.out
    have hz := HZ.out
    have k0 := (hb.block w.heap.size (by omega)).trans t0
    have k1 := (hb.block (w.heap.size + 1) (by omega)).trans t1
    obtain ⟨⟨p0, p1⟩, z0, z1⟩ := two_new _ _ _ k0
    have q0 := cell_of_one k1
    have qz := free_of_one k1
    have hb3 := HB.out.trans (hb.mono HB.out.size)
    have hb4 : Below w.heap.size w (((w1.setCell ⟨w.heap.size, 0, none⟩ (.slice ua un uc)).setCell ⟨w.heap.size, 1, none⟩ (.int .i64 n)).setCell ⟨w.heap.size + 1, 0, none⟩ (.int .i64 0)) := ((hb3.setCell (by simp) _).setCell (by simp) _).setCell (by simp) _
    have r0 : (((w1.setCell ⟨w.heap.size, 0, none⟩ (.slice ua un uc)).setCell ⟨w.heap.size, 1, none⟩ (.int .i64 n)).setCell ⟨w.heap.size + 1, 0, none⟩ (.int .i64 0)).cell? ⟨w.heap.size, 0, none⟩ = some (.slice ua un uc) := by simp [go_sem, p0]
    have r1 : (((w1.setCell ⟨w.heap.size, 0, none⟩ (.slice ua un uc)).setCell ⟨w.heap.size, 1, none⟩ (.int .i64 n)).setCell ⟨w.heap.size + 1, 0, none⟩ (.int .i64 0)).cell? ⟨w.heap.size, 1, none⟩ = some (.int .i64 n) := by simp [go_sem, p1]
    have r2 : (((w1.setCell ⟨w.heap.size, 0, none⟩ (.slice ua un uc)).setCell ⟨w.heap.size, 1, none⟩ (.int .i64 n)).setCell ⟨w.heap.size + 1, 0, none⟩ (.int .i64 0)).cell? ⟨w.heap.size + 1, 0, none⟩ = some (.int .i64 0) := by simp [go_sem, q0]
    have HRR := Lib.hid (And.intro r0 (And.intro r1 r2))
    have B4 := Lib.hid hb4
    clear r0 r1 r2 hb4 hb3 t0 t1 hb k0 k1 hI hV' hz HT HWR HB hun hn
    go_wp2
    refine leaves_cons (f := 48) (args := #[.pointer (some ⟨w.heap.size, 0, none⟩), .pointer (some ⟨w.heap.size + 1, 0, none⟩)]) (by simp) (by simp [go_sem]) ?_
    refine (gblob_idle ⟨w.heap.size, 0, none⟩ ⟨w.heap.size + 1, 0, none⟩ _).mono ?_
    rintro e u' w'' ⟨rfl, rfl, rfl⟩
    obtain ⟨r0, r1, r2⟩ := HRR.out
    have b4 := B4.out
    have v4 := HV1.out
    clear HRR B4 HV1
    generalize ((w1.setCell ⟨w.heap.size, 0, none⟩ (.slice ua un uc)).setCell ⟨w.heap.size, 1, none⟩ (.int .i64 n)).setCell ⟨w.heap.size + 1, 0, none⟩ (.int .i64 0) = w3 at *
    simp [Leaves, settle, results, Tryd.results22, go_sem, r0, r1, r2, FaceR]
    exact ⟨v4, b4⟩
/-- A commit's zero. -/
abbrev comZ : Nat → Value := (comF zeros none 0 0 0 [] [])
set_option maxHeartbeats 400000 in
theorem gcom_idle (p q : Addr) (w : World) :
    CallsD Tryd.prog 35 #[.pointer (some p), .pointer (some q)] .returning w fun e u' w' => e = .returned (.tuple #[]) ∧ u' = .returning ∧ w' = w := by
  refine callsD_of_wpS Tryd.func35 rfl fun c₀ cs hu => ?_
  apply wpS_seq
  apply wpS_region
  simp [wpOpsS, go_sem, recoverD, hu, Tryd.ntmps35, Exit.thenS]
  refine wpS_of_wp ?_
  go_wp2
  cases c₀
  simp_all [bodyPostS, results, Tryd.results35]
set_option maxRecDepth 100000 in
set_option maxHeartbeats 1600000 in
theorem gcom_panicking (b b2 : Nat) (hne : b ≠ b2) (c : Int) (y : Value) (F : Nat → Value) (older : List PanicEntry) (w : World) (hp : RF w b 40 n36 F) (hq : w.heap[b2]? = some (.cells #[y] 24 (0, 0))) :
    CallsD Tryd.prog 35 #[.pointer (some ⟨b, 0, none⟩), .pointer (some ⟨b2, 0, none⟩)] (.panicking ({ v := .iface 24 (.int .i64 c), recovered := false } :: older)) w fun e u' w' =>
      e = .returned (.tuple #[]) ∧ u' = .panicking ({ v := .iface 24 (.int .i64 c), recovered := true } :: older) ∧ w' = (w.setRow b (rowL n36 comZ).toArray).setCell ⟨b2, 0, none⟩ (.int .i64 c) := by
  refine callsD_of_wpS Tryd.func35 rfl fun c₀ cs hu => ?_
  have hq5 : (w.setRow b (rowL n36 comZ).toArray).heap[b2]? = some (.cells #[y] 24 (0, 0)) := (setRow_other _ _ _ _ (Ne.symm hne)).trans hq
  have HQ := Lib.hid (cell_of_one hq5)
  have HZQ := Lib.hid (free_of_one hq5)
  have HP := Lib.hid (hp.write (com_one zeros none 0 0 0 [] [] n36))
  clear hp hq hq5
  apply wpS_seq
  apply wpS_region
  simp [wpOpsS, go_sem, recoverD, hu, Tryd.ntmps35, Exit.thenS]
  have HU := Lib.hid hu
  clear hu
  rw [show (#[Value.pointer (some ⟨b, 0, none⟩), Value.pointer (some ⟨b2, 0, none⟩)] ++ ((Array.replicate 7 undef).setIfInBounds 1 (Value.iface 24 (Value.int IntKind.i64 c))).setIfInBounds 0 (Value.iface 24 (Value.int IntKind.i64 c)) : Array Value)
    = #[.pointer (some ⟨b, 0, none⟩), .pointer (some ⟨b2, 0, none⟩), .iface 24 (.int .i64 c), .iface 24 (.int .i64 c), undef, undef, undef, undef, undef] from rfl]
  generalize hc1 : { c₀ with mode := FrameMode.panicking ({ v := Value.iface 24 (Value.int IntKind.i64 c), recovered := true, goexit := false } :: older) } = c1
  have HC := Lib.hid hc1
  clear hc1
  refine wpS_of_wp ?_
  generalize hq : (fun e a' w' => bodyPostS Tryd.prog Tryd.f35 c₀ cs (fun e u' w' =>
      e = Ending.returned (Value.tuple #[]) ∧
        u' = FrameMode.panicking ({ v := Value.iface 24 (Value.int IntKind.i64 c), recovered := true } :: older) ∧
          w' = (w.setRow b (rowL n36 comZ).toArray).setCell ⟨b2, 0, none⟩ (.int .i64 c)) e a' (c1 :: cs) w') = Q
  have HQQ := Lib.hid hq
  clear hq
  have hp := HP.out
  have hol := rowL_len n36 comZ
  have hq := HQ.out
  have hzq := HZQ.out
  go_wp2_with fail
  refine (ocode_any c _).mono ?_
  rintro e w' ⟨rfl, rfl⟩
  go_wp2
  have e := HQQ.out
  subst e
  have e1 := HC.out
  subst e1
  cases c₀
  simp [bodyPostS, results, Tryd.results35]
set_option maxRecDepth 100000 in
set_option maxHeartbeats 1600000 in
theorem gcom_any (S : Nat → Prop) (v : Value) (l : List UInt8) (w : World) (hS : ∀ k, S k → k < w.heap.size) (hb : BytesC S w v l) :
    Calls Tryd.prog 12 #[v] w (FaceR (ComV w) (.agg (rowL n36 comZ).toArray) w (comR l)) := by
  have hmf : ∀ (fn : Fn) (first cap : Array Value) (w : World), (Instr.makeFunc fn first cap).run Tryd.prog w = .ok (.func fn first cap) w := fun _ _ _ _ => rfl
  obtain ⟨W, hW⟩ : ∃ W, W = ((w.alloc (.cells (rowL n36 comZ).toArray 40)).alloc (.cells #[.int .i64 0] 24)) := ⟨_, rfl⟩
  have hB2 : Below w.heap.size w W := by rw [hW]; exact ((Below.refl _ _).alloc (Nat.le_refl _) _).alloc (by simp) _
  have hz : W.heap.size = w.heap.size + 2 := by rw [hW]; simp
  have hw := rcom_any S v l W (fun k hk => by have := hS k hk; omega) (hb.kept (fun k hk => ⟨hk, hB2.block k (hS k hk)⟩))
  have ht := two_blocks w (rowL n36 comZ).toArray (.int .i64 0) 40 24
  rw [← hW] at ht
  have HT := Lib.hid ht
  have HB := Lib.hid hB2
  have HZ := Lib.hid hz
  have HV := Lib.hid (fun (W1 W3 : World) (u : Value) x (h : ComV W W1 u x) (hs : W1.heap.size ≤ W3.heap.size) (HKK : ∀ k, W.heap.size ≤ k → W3.heap[k]? = W1.heap[k]?) => (by obtain ⟨a, c, h1, h2, h3⟩ := h; exact ⟨a, c, h1, ⟨own_base (row_kept h2.1 (fun q hq => HKK q (World.ownsRow.lt h2.1 q hq).1)) (by omega), h2.2⟩, h3⟩ : ComV w W3 u x))
  rw [hW] at hw HV
  have HW := Lib.hid hW
  obtain ⟨sa, sc, rfl⟩ := hb.shape
  clear hB2 hz hb hW ht hS
  generalize comR l = r at *
  cases r with
  | error c =>
    have HWR := Lib.hid hw
    clear hw
    go_enter_defers Tryd.func12, Tryd.ntmps12
    go_wp2_with fail
    refine HWR.out.mono ?_
    rintro e w1 ⟨rfl, hb⟩
    go_wp2
    rw [← HW.out] at hb
    obtain ⟨t0, t1⟩ := HT.out
    have hz := HZ.out
    have k0 := (hb.block w.heap.size (by omega)).trans t0
    have k1 := (hb.block (w.heap.size + 1) (by omega)).trans t1
    have R0 : RF w1 w.heap.size 40 n36 comZ := ⟨k0⟩
    refine leaves_cons (f := 35) (args := #[.pointer (some ⟨w.heap.size, 0, none⟩), .pointer (some ⟨w.heap.size + 1, 0, none⟩)]) (by simp) (by simp [go_sem]) ?_
    refine (gcom_panicking w.heap.size (w.heap.size + 1) (by omega) c _ _ [] _ R0 k1).mono ?_
    rintro e u' w'' ⟨rfl, rfl, rfl⟩
    have hb3 := HB.out.trans (hb.mono HB.out.size)
    have hb4 : Below w.heap.size w ((w1.setRow w.heap.size (rowL n36 comZ).toArray).setCell ⟨w.heap.size + 1, 0, none⟩ (.int .i64 c)) := (below_setRow hb3 (Nat.le_refl _) _).setCell (by simp) _
    have q0 := cell_of_one ((setRow_other w1 w.heap.size (w.heap.size + 1) (rowL n36 comZ).toArray (by omega)).trans k1)
    have R3 := (R0.put comZ).kept (w' := (w1.setRow w.heap.size (rowL n36 comZ).toArray).setCell ⟨w.heap.size + 1, 0, none⟩ (.int .i64 c)) (Below.heap_setCell _ _ _ _ (by simp))
    have r2 := World.cell?_setCell_same (w1.setRow w.heap.size (rowL n36 comZ).toArray) ⟨w.heap.size + 1, 0, none⟩ (.int .i64 c) q0
    have lv := R3.cells
    generalize (w1.setRow w.heap.size (rowL n36 comZ).toArray).setCell ⟨w.heap.size + 1, 0, none⟩ (.int .i64 c) = w3 at *
    simp [Leaves, settle, results, Tryd.results12, lv, go_sem, r2, FaceR]
    exact hb4
  | ok x =>
    have HWR := Lib.hid hw
    clear hw
    go_enter_defers Tryd.func12, Tryd.ntmps12
    go_wp2_with fail
    refine HWR.out.mono ?_
    rintro e w1 ⟨u, rfl, hV, hb⟩
    have hV' := hV
    obtain ⟨ua, uc, rfl, hI, ht, hs⟩ := hV
    have hG : ∃ G : Nat → Value, G = comF x.tree ua x.parents.length uc x.stamp x.author x.note := ⟨_, rfl⟩
    obtain ⟨G, hG⟩ := hG
    have h1 : OneC n36 G := by rw [hG]; exact com_one _ _ _ _ _ _ _ _
    rw [← hG] at hV' ⊢
    have HV1 := Lib.hid (HV.out w1 ((w1.setRow w.heap.size (rowL n36 G).toArray).setCell ⟨w.heap.size + 1, 0, none⟩ (.int .i64 0)) (.agg (rowL n36 G).toArray) x hV' (by simp [World.setRow]) (fun k hk => by
      rw [← HW.out] at hk
      have hz := HZ.out
      exact (Below.heap_setCell _ _ _ _ (by simp; omega)).trans (setRow_other _ _ _ _ (by omega))))
    rw [← HW.out] at hb
    obtain ⟨t0, t1⟩ := HT.out
    have hz := HZ.out
    have k0 := (hb.block w.heap.size (by omega)).trans t0
    have k1 := (hb.block (w.heap.size + 1) (by omega)).trans t1
    have R0 : RF w1 w.heap.size 40 n36 comZ := ⟨k0⟩
    have st0 := R0.write h1
    have hol := rowL_len n36 G
    have hb3 := HB.out.trans (hb.mono HB.out.size)
    have hb4 : Below w.heap.size w ((w1.setRow w.heap.size (rowL n36 G).toArray).setCell ⟨w.heap.size + 1, 0, none⟩ (.int .i64 0)) := (below_setRow hb3 (Nat.le_refl _) _).setCell (by simp) _
    have hq1 := (setRow_other w1 w.heap.size (w.heap.size + 1) (rowL n36 G).toArray (by omega)).trans k1
    have q0 := cell_of_one hq1
    have qz := free_of_one hq1
    have R3 := (R0.put G).kept (w' := (w1.setRow w.heap.size (rowL n36 G).toArray).setCell ⟨w.heap.size + 1, 0, none⟩ (.int .i64 0)) (Below.heap_setCell _ _ _ _ (by simp))
    have r2 := World.cell?_setCell_same (w1.setRow w.heap.size (rowL n36 G).toArray) ⟨w.heap.size + 1, 0, none⟩ (.int .i64 0) q0
    have HR2 := Lib.hid r2
    have HLV := Lib.hid R3.cells
    have B4 := Lib.hid hb4
    clear r2 R3 R0 hq1 hb4 hb3 t0 t1 hb k0 k1 hI ht hs hV' hz HT HWR HB hG h1
    go_wp2
    refine leaves_cons (f := 35) (args := #[.pointer (some ⟨w.heap.size, 0, none⟩), .pointer (some ⟨w.heap.size + 1, 0, none⟩)]) (by simp) (by simp [go_sem]) ?_
    refine (gcom_idle ⟨w.heap.size, 0, none⟩ ⟨w.heap.size + 1, 0, none⟩ _).mono ?_
    rintro e u' w'' ⟨rfl, rfl, rfl⟩
    have r2 := HR2.out
    have lv := HLV.out
    have b4 := B4.out
    have v4 := HV1.out
    clear HR2 HLV B4 HV1 st0 q0 qz
    generalize (w1.setRow w.heap.size (rowL n36 G).toArray).setCell ⟨w.heap.size + 1, 0, none⟩ (.int .i64 0) = w3 at *
    simp [Leaves, settle, results, Tryd.results12, lv, go_sem, r2, FaceR]
    exact ⟨v4, b4⟩
end Go.Proofs.YtdolonkeanlaoaaDoor
