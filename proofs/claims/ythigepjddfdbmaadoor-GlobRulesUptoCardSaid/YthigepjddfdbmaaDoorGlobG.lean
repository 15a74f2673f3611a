/- Parse: what it gives up by is told. -/
import Derived.Test.YthigepjddfdbmaaDoorGlobF
namespace Go.Proofs.YthigepjddfdbmaaDoor
open Go.RowKit Go.Lib

/-- What a text means, or the error's number. -/
def parseN (s : Txt) : Except Int (List PieceN) := if 255 < s.length then .error 2 else match readN (splitL s) with
  | none => .error 60
  | some l => .ok l
/-- A pattern in memory. -/
def PatAt (S : Nat → Prop) (w : World) (pb : Nat) (ps : List PieceN) : Prop := S pb ∧ (∃ v, w.cell? ⟨pb, 0, none⟩ = some v ∧ PiecesC S w v ps) ∧ ps.length ≤ 4194304
theorem PatAt.kept {S S' : Nat → Prop} {w w' : World} {pb : Nat} {ps : List PieceN} (h : PatAt S w pb ps) (hk : ∀ k, S k → S' k ∧ w'.heap[k]? = w.heap[k]?) : PatAt S' w' pb ps := by
  obtain ⟨h1, ⟨v, h2, h3⟩, h4⟩ := h
  exact ⟨(hk _ h1).1, ⟨v, (World.cell?_of_block (w := w) (hk _ h1).2).trans h2, h3.kept piece_keeps hk⟩, h4⟩
def ParseP (w : World) (r : Except Int (List PieceN)) (e : Ending) (w' : World) : Prop := match r with
  | .error c => e = .returned (.tuple #[.pointer none, .int .i64 c]) ∧ Below w.heap.size w w'
  | .ok ps => ∃ pb, e = .returned (.tuple #[.pointer (some ⟨pb, 0, none⟩), .int .i64 0]) ∧ PatAt (fun k => w.heap.size ≤ k ∧ k < w'.heap.size) w' pb ps ∧ Below w.heap.size w w'
set_option maxHeartbeats 400000 in
theorem parse_idle (p q : Addr) (w : World) :
    CallsD Tryd.prog 24 #[.pointer (some p), .pointer (some q)] .returning w fun e u' w' => e = .returned (.tuple #[]) ∧ u' = .returning ∧ w' = w := by
  refine callsD_of_wpS Tryd.func24 rfl fun c₀ cs hu => ?_
  apply wpS_seq
  apply wpS_region
  simp [wpOpsS, go_sem, recoverD, hu, Tryd.ntmps24, Exit.thenS]
  refine wpS_of_wp ?_
  go_wp2
  cases c₀
  simp_all [bodyPostS, results, Tryd.results24]
set_option maxRecDepth 100000 in
set_option maxHeartbeats 1600000 in
theorem parse_panicking (b b2 : Nat) (hne : b ≠ b2) (c : Int) (x y : Value) (t t2 : TypeId) (older : List PanicEntry) (w : World) (hp : w.heap[b]? = some (.cells #[x] t (0, 0))) (hq : w.heap[b2]? = some (.cells #[y] t2 (0, 0))) :
    CallsD Tryd.prog 24 #[.pointer (some ⟨b, 0, none⟩), .pointer (some ⟨b2, 0, none⟩)] (.panicking ({ v := .iface 24 (.int .i64 c), recovered := false } :: older)) w fun e u' w' =>
      e = .returned (.tuple #[]) ∧ u' = .panicking ({ v := .iface 24 (.int .i64 c), recovered := true } :: older) ∧ w' = (w.setCell ⟨b, 0, none⟩ (.pointer none)).setCell ⟨b2, 0, none⟩ (.int .i64 c) := by
  have hta : ∀ w, (Instr.typeAssert (.iface 24 (.int .i64 c)) 20 24 true).run Tryd.prog w = .ok (.tuple #[.int .i64 c, .bool true]) w := fun _ => by kernel_rfl
  refine callsD_of_wpS Tryd.func24 rfl fun c₀ cs hu => ?_
  have HQ : Hid ((w.setCell ⟨b, 0, none⟩ (.pointer none)).cell? ⟨b2, 0, none⟩ = some y) := Lib.hid (by
    rw [World.cell?_setCell_other _ _ _ _ (by intro c; injection c with c _ _; exact hne c), cell_of_row _ _ _ _ _ _ hq]; rfl)
  have HZQ : Hid ((w.setCell ⟨b, 0, none⟩ (.pointer none)).frozen? ⟨b2, 0, none⟩ = false) := Lib.hid (by rw [World.frozen?_setCell]; exact frozen_box hq 0)
  have HP : Hid (w.cell? ⟨b, 0, none⟩ = some x ∧ w.frozen? ⟨b, 0, none⟩ = false) := Lib.hid ⟨by rw [cell_of_row _ _ _ _ _ _ hp]; rfl, frozen_box hp 0⟩
  clear hp hq
  apply wpS_seq
  apply wpS_region
  simp [wpOpsS, go_sem, recoverD, hu, Tryd.ntmps24, Exit.thenS]
  have HU := Lib.hid hu
  clear hu
  rw [show (#[Value.pointer (some ⟨b, 0, none⟩), Value.pointer (some ⟨b2, 0, none⟩)] ++ ((Array.replicate 15 undef).setIfInBounds 3 (Value.iface 24 (Value.int IntKind.i64 c))).setIfInBounds 0 (Value.iface 24 (Value.int IntKind.i64 c)) : Array Value)
    = #[.pointer (some ⟨b, 0, none⟩), .pointer (some ⟨b2, 0, none⟩), .iface 24 (.int .i64 c), undef, undef, .iface 24 (.int .i64 c), undef, undef, undef, undef, undef, undef, undef, undef, undef, undef, undef] from rfl]
  generalize hc1 : { c₀ with mode := FrameMode.panicking ({ v := Value.iface 24 (Value.int IntKind.i64 c), recovered := true, goexit := false } :: older) } = c1'
  have HC := Lib.hid hc1
  clear hc1
  refine wpS_of_wp ?_
  generalize hq : (fun e a' w' => bodyPostS Tryd.prog Tryd.f24 c₀ cs (fun e u' w' =>
      e = Ending.returned (Value.tuple #[]) ∧
        u' = FrameMode.panicking ({ v := Value.iface 24 (Value.int IntKind.i64 c), recovered := true } :: older) ∧
          w' = (w.setCell ⟨b, 0, none⟩ (.pointer none)).setCell ⟨b2, 0, none⟩ (.int .i64 c)) e a' (c1' :: cs) w') = Q
  have HQQ := Lib.hid hq
  clear hq
  obtain ⟨p0, z0⟩ := HP.out
  have hq := HQ.out
  have hzq := HZQ.out
  go_wp2_with fail
  have e := HQQ.out
  subst e
  have e1 := HC.out
  subst e1
  cases c₀
  simp [bodyPostS, results, Tryd.results24]
theorem two_ones (w : World) (x y : Value) (t t1 : TypeId) :
    ((w.alloc (.cells #[x] t)).alloc (.cells #[y] t1)).heap[w.heap.size]? = some (.cells #[x] t (0, 0)) ∧ ((w.alloc (.cells #[x] t)).alloc (.cells #[y] t1)).heap[w.heap.size + 1]? = some (.cells #[y] t1 (0, 0)) := by
  refine ⟨(Below.heap_alloc _ _ _ (by simp)).trans (new_five w _ _), ?_⟩
  have := new_five (w.alloc (.cells #[x] t)) #[y] t1
  simpa using this
theorem cell0 {w : World} {b : Nat} {x : Value} {t : TypeId} (h : w.heap[b]? = some (.cells #[x] t (0, 0))) : w.cell? ⟨b, 0, none⟩ = some x := by rw [cell_of_row _ _ _ _ _ _ h]; rfl
/-- Two cells set, of two blocks. -/
theorem two_set {w : World} {b b2 : Nat} (hne : b ≠ b2) {x y : Value} (h1 : w.cell? ⟨b, 0, none⟩ = some x) (h2 : w.cell? ⟨b2, 0, none⟩ = some y) (u v : Value) :
    ((w.setCell ⟨b, 0, none⟩ u).setCell ⟨b2, 0, none⟩ v).cell? ⟨b, 0, none⟩ = some u ∧ ((w.setCell ⟨b, 0, none⟩ u).setCell ⟨b2, 0, none⟩ v).cell? ⟨b2, 0, none⟩ = some v := by
  constructor
  · rw [World.cell?_setCell_other _ _ _ _ (by intro c; injection c with c _ _; exact hne c.symm)]
    exact World.cell?_setCell_same _ _ _ h1
  · exact World.cell?_setCell_same _ _ _ (by rw [World.cell?_setCell_other _ _ _ _ (by intro c; injection c with c _ _; exact hne c)]; exact h2)
set_option maxRecDepth 100000 in
set_option maxHeartbeats 1600000 in
theorem parse_long (s : Txt) (w : World) (hl : 255 < s.length) (hm : s.length ≤ 4194304) :
    Calls Tryd.prog 10 #[.string ⟨s.toArray⟩] w fun e w' => e = .returned (.tuple #[.pointer none, .int .i64 2]) ∧ Below w.heap.size w w' := by
  have HB : Hid (Below w.heap.size w ((w.alloc (.cells #[.pointer none] 23)).alloc (.cells #[.int .i64 0] 24))) := Lib.hid (((Below.refl _ _).alloc (Nat.le_refl _) _).alloc (by simp) _)
  have HT := Lib.hid (two_ones w (.pointer none) (.int .i64 0) 23 24)
  go_enter Tryd.func10, Tryd.ntmps10
  obtain ⟨t0, t1⟩ := HT.out
  have c0 := cell0 t0
  have c1 := cell0 t1
  have f0 := frozen_box t0 0
  have f1 := frozen_box t1 0
  clear t0 t1
  go_upto_region 2 with fail
  generalize (w.alloc (.cells #[.pointer none] 23)).alloc (.cells #[.int .i64 0] 24) = wz at *
  obtain ⟨b, hb⟩ : ∃ q, w.heap.size = q := ⟨_, rfl⟩
  obtain ⟨b2, hb2⟩ : ∃ q, b + 1 = q := ⟨_, rfl⟩
  have hne : b ≠ b2 := by omega
  have h1 : w.heap.size ≤ b := by omega
  have h2 : w.heap.size ≤ b2 := by omega
  rw [hb] at c0 c1 f0 f1
  rw [hb2] at c1 f1
  rw [hb, hb2]
  have H1 := Lib.hid h1
  have H2 := Lib.hid h2
  have d0 : (wz.setCell ⟨b, 0, none⟩ (.pointer none)).cell? ⟨b2, 0, none⟩ = some (.int .i64 0) := (World.cell?_setCell_other _ _ _ _ (by intro c; injection c with c _ _; exact hne c)).trans c1
  have d1 : (wz.setCell ⟨b, 0, none⟩ (.pointer none)).frozen? ⟨b2, 0, none⟩ = false := by rw [World.frozen?_setCell]; exact f1
  obtain ⟨z0, z1⟩ := two_set hne c0 c1 (.pointer none) (.int .i64 2)
  have Z0 := Lib.hid z0
  have Z1 := Lib.hid z1
  clear hb hb2 h1 h2 hne z0 z1
  go_wp2_with fail
  have z0 := Z0.out
  have z1 := Z1.out
  exact bodyPost_ret (v := .tuple #[.pointer none, .int .i64 2]) (by simp [results, Tryd.results10, go_sem, z0, z1]) rfl ⟨rfl, (HB.out.setCell H1.out _).setCell H2.out _⟩
set_option maxRecDepth 100000 in
set_option maxHeartbeats 1600000 in
theorem parse_bad (s : Txt) (w : World) (hl : s.length ≤ 255) (hE : PEnv w) (hc : readN (splitL s) = none) :
    Calls Tryd.prog 10 #[.string ⟨s.toArray⟩] w fun e w' => e = .returned (.tuple #[.pointer none, .int .i64 60]) ∧ Below w.heap.size w w' := by
  have hmf : ∀ (fn : Fn) (first cap : Array Value) (w : World), (Instr.makeFunc fn first cap).run Tryd.prog w = .ok (.func fn first cap) w := fun _ _ _ _ => rfl
  have HB : Hid (Below w.heap.size w ((w.alloc (.cells #[.pointer none] 23)).alloc (.cells #[.int .i64 0] 24))) := Lib.hid (((Below.refl _ _).alloc (Nat.le_refl _) _).alloc (by simp) _)
  have hw := read_any s ((w.alloc (.cells #[.pointer none] 23)).alloc (.cells #[.int .i64 0] 24)) (by omega) (hE.on HB.out)
  rw [hc] at hw
  have HW := Lib.hid hw
  have HT := Lib.hid (two_ones w (.pointer none) (.int .i64 0) 23 24)
  clear hw hc hE
  go_enter_defers Tryd.func10, Tryd.ntmps10
  go_wp2_with fail
  refine HW.out.mono ?_
  rintro e w1 ⟨rfl, hb⟩
  go_wp2
  obtain ⟨t0, t1⟩ := HT.out
  have k0 := (hb.block w.heap.size (by simp; omega)).trans t0
  have k1 := (hb.block (w.heap.size + 1) (by simp)).trans t1
  refine leaves_cons (f := 24) (args := #[.pointer (some ⟨w.heap.size, 0, none⟩), .pointer (some ⟨w.heap.size + 1, 0, none⟩)]) (by simp) (by simp [go_sem]) ?_
  refine (parse_panicking w.heap.size (w.heap.size + 1) (by omega) 60 _ _ _ _ [] _ k0 k1).mono ?_
  rintro e u' w'' ⟨rfl, rfl, rfl⟩
  obtain ⟨z0, z1⟩ := two_set (by omega : w.heap.size ≠ w.heap.size + 1) (cell0 k0) (cell0 k1) (.pointer none) (.int .i64 60)
  have hb3 := HB.out.trans (hb.mono HB.out.size)
  have hb4 := (hb3.setCell (p := ⟨w.heap.size, 0, none⟩) (Nat.le_refl _) (.pointer none)).setCell (p := ⟨w.heap.size + 1, 0, none⟩) (by simp) (.int .i64 60)
  simp [Leaves, settle, results, Tryd.results10, go_sem, z0, z1]
  exact hb4
set_option maxRecDepth 100000 in
set_option maxHeartbeats 1600000 in
theorem parse_fit (s : Txt) (w : World) (hl : s.length ≤ 255) (hE : PEnv w) {ps : List PieceN} (hc : readN (splitL s) = some ps) :
    Calls Tryd.prog 10 #[.string ⟨s.toArray⟩] w fun e w' => ∃ pb, e = .returned (.tuple #[.pointer (some ⟨pb, 0, none⟩), .int .i64 0]) ∧ PatAt (fun k => w.heap.size ≤ k ∧ k < w'.heap.size) w' pb ps ∧ Below w.heap.size w w' := by
  have hmf : ∀ (fn : Fn) (first cap : Array Value) (w : World), (Instr.makeFunc fn first cap).run Tryd.prog w = .ok (.func fn first cap) w := fun _ _ _ _ => rfl
  have HB : Hid (Below w.heap.size w ((w.alloc (.cells #[.pointer none] 23)).alloc (.cells #[.int .i64 0] 24))) := Lib.hid (((Below.refl _ _).alloc (Nat.le_refl _) _).alloc (by simp) _)
  have hw := read_any s ((w.alloc (.cells #[.pointer none] 23)).alloc (.cells #[.int .i64 0] 24)) (by omega) (hE.on HB.out)
  rw [hc] at hw
  have HW := Lib.hid hw
  have HT := Lib.hid (two_ones w (.pointer none) (.int .i64 0) 23 24)
  clear hw hc hE
  go_enter_defers Tryd.func10, Tryd.ntmps10
  go_wp2_with fail
  refine HW.out.mono ?_
  rintro e w1 ⟨v1, rfl, hp, hpl, hb⟩
  obtain ⟨a1, c1, rfl⟩ := RowsC.shape hp
  obtain ⟨t0, t1⟩ := HT.out
  have hsz := hb.size
  simp at hsz
  have k0 := (hb.block w.heap.size (by simp; omega)).trans t0
  have k1 := (hb.block (w.heap.size + 1) (by simp)).trans t1
  have m0 := (Below.heap_alloc w1 (.cells #[.slice a1 ps.length c1] 47) w.heap.size (by omega)).trans k0
  have m1 := (Below.heap_alloc w1 (.cells #[.slice a1 ps.length c1] 47) (w.heap.size + 1) (by omega)).trans k1
  have m2 := new_five w1 #[.slice a1 ps.length c1] 47
  have hb3 := (HB.out.trans (hb.mono HB.out.size)).alloc (Nat.le_trans HB.out.size (by simpa using hb.size)) (.cells #[.slice a1 ps.length c1] 47)
  have B3 := Lib.hid hb3
  have c0 := cell0 m0
  have c1' := cell0 m1
  have f0 := frozen_box m0 0
  have f1 := frozen_box m1 0
  have d0 : ((w1.alloc (.cells #[.slice a1 ps.length c1] 47)).setCell ⟨w.heap.size, 0, none⟩ (.pointer (some ⟨w1.heap.size, 0, none⟩))).cell? ⟨w.heap.size + 1, 0, none⟩ = some (.int .i64 0) := (World.cell?_setCell_other _ _ _ _ (by intro c; injection c with c _ _; omega)).trans c1'
  have d1 : ((w1.alloc (.cells #[.slice a1 ps.length c1] 47)).setCell ⟨w.heap.size, 0, none⟩ (.pointer (some ⟨w1.heap.size, 0, none⟩))).frozen? ⟨w.heap.size + 1, 0, none⟩ = false := by rw [World.frozen?_setCell]; exact f1
  have Z := Lib.hid (two_set (by omega : w.heap.size ≠ w.heap.size + 1) c0 c1' (.pointer (some ⟨w1.heap.size, 0, none⟩)) (.int .i64 0))
  have HPT : Hid (PatAt (fun k => w.heap.size ≤ k ∧ k < w1.heap.size + 1 ∧ k ≠ w.heap.size ∧ k ≠ w.heap.size + 1) (w1.alloc (.cells #[.slice a1 ps.length c1] 47)) w1.heap.size ps) := Lib.hid (by
    refine ⟨⟨by omega, by omega, by omega, by omega⟩, ⟨_, cell0 m2, hp.kept piece_keeps (fun q hq => ?_)⟩, hpl⟩
    simp at hq
    exact ⟨⟨by omega, by omega, by omega, by omega⟩, Below.heap_alloc _ _ _ hq.2⟩)
  clear k0 k1 t0 t1 hb3 hp hb HW HT HB m0 m1 m2
  go_wp2
  refine leaves_cons (f := 24) (args := #[.pointer (some ⟨w.heap.size, 0, none⟩), .pointer (some ⟨w.heap.size + 1, 0, none⟩)]) (by simp) (by simp [go_sem]) ?_
  refine (parse_idle ⟨w.heap.size, 0, none⟩ ⟨w.heap.size + 1, 0, none⟩ _).mono ?_
  rintro e u' w'' ⟨rfl, rfl, rfl⟩
  obtain ⟨z0, z1⟩ := Z.out
  have b4 := (B3.out.setCell (p := ⟨w.heap.size, 0, none⟩) (Nat.le_refl _) (.pointer (some ⟨w1.heap.size, 0, none⟩))).setCell (p := ⟨w.heap.size + 1, 0, none⟩) (by simp) (.int .i64 0)
  have p4 := HPT.out.kept (S' := fun k => w.heap.size ≤ k ∧ k < (((w1.alloc (.cells #[.slice a1 ps.length c1] 47)).setCell ⟨w.heap.size, 0, none⟩ (.pointer (some ⟨w1.heap.size, 0, none⟩))).setCell ⟨w.heap.size + 1, 0, none⟩ (.int .i64 0)).heap.size) (w' := ((w1.alloc (.cells #[.slice a1 ps.length c1] 47)).setCell ⟨w.heap.size, 0, none⟩ (.pointer (some ⟨w1.heap.size, 0, none⟩))).setCell ⟨w.heap.size + 1, 0, none⟩ (.int .i64 0))
    (fun k hk => ⟨⟨hk.1, by simp [World.setCell]; exact hk.2.1⟩, (Below.heap_setCell _ _ _ _ (by simp; omega)).trans (Below.heap_setCell _ _ _ _ (by simp; omega))⟩)
  clear Z B3 HPT d0 d1 c0 c1' f0 f1
  generalize ((w1.alloc (.cells #[.slice a1 ps.length c1] 47)).setCell ⟨w.heap.size, 0, none⟩ (.pointer (some ⟨w1.heap.size, 0, none⟩))).setCell ⟨w.heap.size + 1, 0, none⟩ (.int .i64 0) = w3 at *
  simp [Leaves, settle, results, Tryd.results10, go_sem, z0, z1]
  exact ⟨p4, b4⟩
theorem parse_any (s : Txt) (w : World) (hl : s.length ≤ 4194304) (hE : PEnv w) : Calls Tryd.prog 10 #[.string ⟨s.toArray⟩] w (ParseP w (parseN s)) := by
  unfold parseN
  by_cases h : 255 < s.length
  · rw [if_pos h]; exact parse_long s w h hl
  · rw [if_neg h]
    cases hr : readN (splitL s) with
    | none => exact parse_bad s w (by omega) hE hr
    | some ps => exact parse_fit s w (by omega) hE hr
end Go.Proofs.YthigepjddfdbmaaDoor
