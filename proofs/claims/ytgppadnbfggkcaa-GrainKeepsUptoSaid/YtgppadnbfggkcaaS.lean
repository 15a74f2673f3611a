/- The walk of the reader's value. -/
import Derived.Test.YtgppadnbfggkcaaR
import Derived.Outline
namespace Go.Proofs.Ytgppadnbfggkcaa
open Go.RowKit

/-- A value's five cells, in a block of their own. -/
theorem five_cells {w : World} {b : Nat} {c0 c1 c2 c3 c4 : Value} {t : TypeId} (h : w.heap[b]? = some (.cells #[c0, c1, c2, c3, c4] t (0, 0))) :
    (w.cell? ⟨b, 0, none⟩ = some c0 ∧ w.cell? ⟨b, 1, none⟩ = some c1 ∧ w.cell? ⟨b, 2, none⟩ = some c2 ∧ w.cell? ⟨b, 3, none⟩ = some c3 ∧ w.cell? ⟨b, 4, none⟩ = some c4) ∧
    (w.frozen? ⟨b, 0, none⟩ = false ∧ w.frozen? ⟨b, 1, none⟩ = false ∧ w.frozen? ⟨b, 2, none⟩ = false ∧ w.frozen? ⟨b, 3, none⟩ = false ∧ w.frozen? ⟨b, 4, none⟩ = false) := by
  refine ⟨⟨?_, ?_, ?_, ?_, ?_⟩, ⟨?_, ?_, ?_, ?_, ?_⟩⟩ <;> first | (unfold World.cell?; rw [h]; rfl) | (unfold World.frozen?; rw [h]; rfl)
theorem new_five (w : World) (cs : Array Value) (t : TypeId) : (w.alloc (.cells cs t)).heap[w.heap.size]? = some (.cells cs t (0, 0)) := by
  show (w.heap.push _)[w.heap.size]? = _
  rw [Array.getElem?_push, if_pos rfl]
set_option maxRecDepth 100000 in
set_option maxHeartbeats 1000000 in
theorem value_deep : ValueOk 0 := by
  intro S rb l a w ha hl hR
  have e : a = 16 := by omega
  subst e
  clear hR
  go_enter Try.func34, Try.ntmps34
  go_wp2
  exact ⟨rfl, rfl, World.grownBy_alloc w _ _⟩
theorem RestAt.alloc {S : Nat → Prop} {rb : Nat} {w : World} {l : List UInt8} (h : RestAt S rb w l) (o : Obj) : RestAt S rb (w.alloc o) l :=
  h.kept (fun k hk _ => Below.heap_alloc w o k hk) (by simp)
set_option maxRecDepth 100000 in
set_option maxHeartbeats 1000000 in
theorem value_head (n : Nat) (S : Nat → Prop) (rb : Nat) (l : List UInt8) (a : Nat) (w : World) (ha : a < 16) (hR : RestAt S rb w l) (c : Int) (hh : headD l = .error c) :
    Calls Try.prog 34 #[.pointer (some ⟨rb, 0, none⟩), .int .i64 a] w (ValGives S rb w n (.error c)) := by
  have HH := head_any S rb l (w.alloc (.cells #[.int .i64 0, .int .u64 0, .slice none 0 0, .float .f64 0, .slice none 0 0] 27)) (hR.alloc _)
  rw [hh] at HH
  have H := Lib.hid HH
  clear HH hR hh
  go_enter Try.func34, Try.ntmps34
  go_wp2_with fail
  refine H.out.mono ?_
  rintro e w1 ⟨rfl, hg⟩
  go_wp2_with fail
  exact ⟨rfl, rfl, kb_trans (World.grownBy_alloc w _ _) hg⟩
def set5 (w : World) (b : Nat) (v0 v1 v2 v3 v4 : Value) : World :=
  ((((w.setCell ⟨b, 0, none⟩ v0).setCell ⟨b, 1, none⟩ v1).setCell ⟨b, 2, none⟩ v2).setCell ⟨b, 3, none⟩ v3).setCell ⟨b, 4, none⟩ v4
theorem set5_size (w : World) (b : Nat) (v0 v1 v2 v3 v4 : Value) : (set5 w b v0 v1 v2 v3 v4).heap.size = w.heap.size := by simp [set5]
theorem set5_block (w : World) (b : Nat) (v0 v1 v2 v3 v4 : Value) (k : Nat) (h : k ≠ b) : (set5 w b v0 v1 v2 v3 v4).heap[k]? = w.heap[k]? := by
  unfold set5
  rw [Below.heap_setCell _ _ _ _ h, Below.heap_setCell _ _ _ _ h, Below.heap_setCell _ _ _ _ h, Below.heap_setCell _ _ _ _ h, Below.heap_setCell _ _ _ _ h]
theorem set5_cells {w : World} {b : Nat} {c0 c1 c2 c3 c4 : Value} (h0 : w.cell? ⟨b, 0, none⟩ = some c0) (h1 : w.cell? ⟨b, 1, none⟩ = some c1) (h2 : w.cell? ⟨b, 2, none⟩ = some c2) (h3 : w.cell? ⟨b, 3, none⟩ = some c3) (h4 : w.cell? ⟨b, 4, none⟩ = some c4) (v0 v1 v2 v3 v4 : Value) :
    (set5 w b v0 v1 v2 v3 v4).cell? ⟨b, 0, none⟩ = some v0 ∧ (set5 w b v0 v1 v2 v3 v4).cell? ⟨b, 1, none⟩ = some v1 ∧ (set5 w b v0 v1 v2 v3 v4).cell? ⟨b, 2, none⟩ = some v2 ∧ (set5 w b v0 v1 v2 v3 v4).cell? ⟨b, 3, none⟩ = some v3 ∧ (set5 w b v0 v1 v2 v3 v4).cell? ⟨b, 4, none⟩ = some v4 := by
  unfold set5
  refine ⟨?_, ?_, ?_, ?_, ?_⟩ <;> simp [go_sem, h0, h1, h2, h3, h4]
theorem kb_put {w w1 : World} {row : Option Nat} {p : Addr} (h : w.grownBy w1 row) (hb : w.heap.size ≤ p.block) (v : Value) : w.grownBy (w1.setCell p v) row :=
  ⟨h.os, h.tape, h.output, by simpa using h.size, fun k hk hne => (Below.heap_setCell _ _ _ _ (by omega)).trans (h.block k hk hne)⟩
theorem set5_grown {w w1 : World} {row : Option Nat} {b : Nat} (h : w.grownBy w1 row) (hb : w.heap.size ≤ b) (v0 v1 v2 v3 v4 : Value) : w.grownBy (set5 w1 b v0 v1 v2 v3 v4) row :=
  kb_put (kb_put (kb_put (kb_put (kb_put h hb v0) hb v1) hb v2) hb v3) hb v4
theorem RestAt.set5 {S : Nat → Prop} {rb b : Nat} {w : World} {l : List UInt8} (h : RestAt S rb w l) (hb : b ≠ rb) (hS : ¬ S b) (v0 v1 v2 v3 v4 : Value) : RestAt S rb (set5 w b v0 v1 v2 v3 v4) l :=
  h.kept (fun k _ hk => set5_block _ _ _ _ _ _ _ _ (by rintro rfl; rcases hk with hk | hk; exact hS hk; exact hb hk)) (by rw [set5_size]; exact Nat.le_refl _)
set_option maxRecDepth 100000 in
set_option maxHeartbeats 1000000 in
theorem value_num (n : Nat) (S : Nat → Prop) (rb : Nat) (l r : List UInt8) (a m : Nat) (w : World) (ha : a < 16) (hR : RestAt S rb w l) (hh : headD l = .ok (0, m, r)) :
    Calls Try.prog 34 #[.pointer (some ⟨rb, 0, none⟩), .int .i64 a] w (ValGives S rb w (n + 1) (.ok (.mk 0 m [] 0 [], r))) := by
  have hst := run_storeF
  have HH := head_any S rb l (w.alloc (.cells #[.int .i64 0, .int .u64 0, .slice none 0 0, .float .f64 0, .slice none 0 0] 27)) (hR.alloc _)
  rw [hh] at HH
  have H := Lib.hid HH
  have hrb : rb < w.heap.size := hR.choose_spec.2.2.2.2.2
  have HS := Lib.hid hR.choose_spec.2.2.2.2.1
  clear HH hR hh
  go_enter Try.func34, Try.ntmps34
  go_wp2_with fail
  refine H.out.mono ?_
  rintro e w1 ⟨rfl, hk, hm, hr, hg⟩
  have hblk : w1.heap[w.heap.size]? = _ := (hg.block w.heap.size (by simp) (fun e => by injection e with e; omega)).trans (new_five w _ _)
  obtain ⟨⟨c0, c1, c2, c3, c4⟩, z0, z1, z2, z3, z4⟩ := five_cells hblk
  have HM := Lib.hid hm
  have HR := Lib.hid hr
  have HG := Lib.hid hg
  clear hm hr hg hblk hk
  go_wp2_with fail
  obtain ⟨r0, r1, r2, r3, r4⟩ := set5_cells c0 c1 c2 c3 c4 (.int .i64 0) (.int .u64 m) (.slice none 0 0) (.float .f64 0) (.slice none 0 0)
  have hfin := set5_grown (kb_trans (World.grownBy_alloc w _ _) HG.out) (Nat.le_refl _) (.int .i64 0) (.int .u64 m) (.slice none 0 0) (.float .f64 0) (.slice none 0 0)
  have hrest := RestAt.set5 HR.out (show w.heap.size ≠ rb by omega) (fun h => by have := HS.out _ h; omega) (.int .i64 0) (.int .u64 m) (.slice none 0 0) (.float .f64 0) (.slice none 0 0)
  unfold set5 at r0 r1 r2 r3 r4
  exact bodyPost_ret (v := .agg #[.int .i64 0, .int .u64 m, .slice none 0 0, .float .f64 0, .slice none 0 0]) (by simp [results, Try.results34, go_sem, r0, r1, r2, r3, r4]) rfl
    ⟨_, rfl, ⟨_, _, rfl, HM.out, by omega, by simp, by simp, Or.inl ⟨rfl, rfl⟩, Or.inl ⟨rfl, rfl⟩⟩, hrest, hfin⟩
/-- What is left to say once the answer's cells are written. -/
theorem value_fin {S : Nat → Prop} {rb : Nat} {w w3 : World} {n : Nat} {x : Val} {r : List UInt8} {v0 v1 v2 v3 v4 : Value} (hrb : rb < w.heap.size) (hS : ∀ k, S k → k < w.heap.size)
    (hx : ReadsS (fun k => w.heap.size < k ∧ k < w3.heap.size) w3 n (.agg #[v0, v1, v2, v3, v4]) x) (hr : RestAt S rb w3 r) (hg : w.grownBy w3 (some rb)) :
    ReadsS (fun k => w.heap.size ≤ k ∧ k < (set5 w3 w.heap.size v0 v1 v2 v3 v4).heap.size) (set5 w3 w.heap.size v0 v1 v2 v3 v4) n (.agg #[v0, v1, v2, v3, v4]) x ∧
    RestAt S rb (set5 w3 w.heap.size v0 v1 v2 v3 v4) r ∧ w.grownBy (set5 w3 w.heap.size v0 v1 v2 v3 v4) (some rb) :=
  ⟨ReadsS.kept (fun k hk => ⟨⟨by omega, by rw [set5_size]; exact hk.2⟩, set5_block _ _ _ _ _ _ _ _ (by omega)⟩) n _ _ hx, RestAt.set5 hr (by omega) (fun h => by have := hS _ h; omega) _ _ _ _ _, set5_grown hg (Nat.le_refl _) _ _ _ _ _⟩
set_option maxRecDepth 100000 in
set_option maxHeartbeats 1000000 in
theorem value_short (n : Nat) (S : Nat → Prop) (rb : Nat) (l r : List UInt8) (a m : Nat) (w : World) (ha : a < 16) (hR : RestAt S rb w l) (hh : headD l = .ok (1, m, r)) (hm : r.length < m) :
    Calls Try.prog 34 #[.pointer (some ⟨rb, 0, none⟩), .int .i64 a] w (ValGives S rb w (n + 1) (.error 20)) := by
  have HH := head_any S rb l (w.alloc (.cells #[.int .i64 0, .int .u64 0, .slice none 0 0, .float .f64 0, .slice none 0 0] 27)) (hR.alloc _)
  rw [hh] at HH
  have H := Lib.hid HH
  have HMR := Lib.hid hm
  clear HH hR hh hm
  go_enter Try.func34, Try.ntmps34
  go_wp2_with fail
  refine H.out.mono ?_
  rintro e w1 ⟨rfl, hk, hm, hr, hg⟩
  have HT := Lib.hid (take_any S rb m r w1 hm hr)
  have HG := Lib.hid hg
  clear hm hr hg hk
  go_wp2_with fail
  refine HT.out.mono ?_
  rintro e w2 h
  rw [if_neg (by have := HMR.out; omega)] at h
  obtain ⟨rfl, rfl⟩ := h
  go_wp2_with fail
  exact ⟨rfl, rfl, kb_trans (World.grownBy_alloc w _ _) HG.out⟩
set_option maxRecDepth 100000 in
set_option maxHeartbeats 1000000 in
theorem value_bytes (n : Nat) (S : Nat → Prop) (rb : Nat) (l r : List UInt8) (a m : Nat) (w : World) (ha : a < 16) (hl : l.length ≤ 1048576) (hR : RestAt S rb w l) (hh : headD l = .ok (1, m, r)) (hm : m ≤ r.length) :
    Calls Try.prog 34 #[.pointer (some ⟨rb, 0, none⟩), .int .i64 a] w (ValGives S rb w (n + 1) (.ok (.mk 1 0 (r.take m) 0 [], r.drop m))) := by
  have hst := run_storeF
  have hless := headD_less hh
  have HH := head_any S rb l (w.alloc (.cells #[.int .i64 0, .int .u64 0, .slice none 0 0, .float .f64 0, .slice none 0 0] 27)) (hR.alloc _)
  rw [hh] at HH
  have H := Lib.hid HH
  have HMR := Lib.hid hm
  have hrb : rb < w.heap.size := hR.choose_spec.2.2.2.2.2
  have HS := Lib.hid hR.choose_spec.2.2.2.2.1
  have htl : (r.take m).length ≤ 1048576 := by rw [List.length_take]; omega
  have HTL := Lib.hid htl
  clear HH hR hh hm hless htl
  generalize htk : r.take m = tk at *
  have HTK := Lib.hid htk
  clear htk
  go_enter Try.func34, Try.ntmps34
  go_wp2_with fail
  refine H.out.mono ?_
  rintro e w1 ⟨rfl, hk, hm, hr, hg⟩
  have hblk : w1.heap[w.heap.size]? = _ := (hg.block w.heap.size (by simp) (fun e => by injection e with e; omega)).trans (new_five w _ _)
  have hs1 := hg.size
  simp at hs1
  have HT := Lib.hid (take_any S rb m r w1 hm hr)
  have HB := Lib.hid hblk
  have HG := Lib.hid hg
  clear hm hr hg hk hblk
  go_wp2_with fail
  refine HT.out.mono ?_
  rintro e w2 h
  rw [if_pos HMR.out] at h
  obtain ⟨out, rfl, hb, hr2, hg2⟩ := h
  rw [HTK.out] at hb
  have hs2 := hg2.size
  have hblk2 := (hg2.block w.heap.size (by omega) (fun e => by injection e with e; omega)).trans HB.out
  have HC := Lib.hid (clone_any S out _ w2 HTL.out (fun k hk => by have := HS.out k hk; omega) hb)
  have HR2 := Lib.hid hr2
  have HB2 := Lib.hid hblk2
  have HG2 := Lib.hid (kb_trans HG.out hg2)
  clear hb hr2 hg2 hblk2
  go_wp2_with fail
  refine HC.out.mono ?_
  rintro e w3 ⟨v', rfl, hb3, hbl⟩
  have hs3 := hbl.size
  have hblk3 := (hbl.block w.heap.size (by omega)).trans HB2.out
  obtain ⟨⟨c0, c1, c2, c3, c4⟩, z0, z1, z2, z3, z4⟩ := five_cells hblk3
  obtain ⟨sa, sc, rfl⟩ := hb3.shape
  have HB3 := Lib.hid hb3
  have HBL := Lib.hid hbl
  clear hb3 hbl hblk3
  go_wp2_with fail
  obtain ⟨r0, r1, r2, r3, r4⟩ := set5_cells c0 c1 c2 c3 c4 (.int .i64 1) (.int .u64 0) (.slice sa tk.length sc) (.float .f64 0) (.slice none 0 0)
  have hfin := value_fin (w := w) (w3 := w3) (n := n + 1) (x := .mk 1 0 tk 0 []) (v0 := .int .i64 1) (v1 := .int .u64 0) (v2 := .slice sa tk.length sc) (v3 := .float .f64 0) (v4 := .slice none 0 0) hrb HS.out
    ⟨_, _, rfl, by omega, by omega, HTL.out, by simp, HB3.out.kept (fun k hk => ⟨⟨by omega, hk.2⟩, rfl⟩), Or.inl ⟨rfl, rfl⟩⟩
    (HR2.out.kept (fun k hk _ => HBL.out.block k hk) HBL.out.size)
    (kb_trans (kb_trans (World.grownBy_alloc w _ _) HG2.out) ⟨HBL.out.os, HBL.out.tape, HBL.out.output, HBL.out.size, fun k hk _ => HBL.out.block k hk⟩)
  unfold set5 at r0 r1 r2 r3 r4
  exact bodyPost_ret (v := .agg #[.int .i64 1, .int .u64 0, .slice sa tk.length sc, .float .f64 0, .slice none 0 0]) (by simp [results, Try.results34, go_sem, r0, r1, r2, r3, r4]) rfl ⟨_, rfl, hfin⟩
set_option maxRecDepth 100000 in
set_option maxHeartbeats 1000000 in
theorem value_real (n : Nat) (S : Nat → Prop) (rb : Nat) (l r : List UInt8) (a m : Nat) (w : World) (ha : a < 16) (hR : RestAt S rb w l) (hh : headD l = .ok (2, m, r)) :
    Calls Try.prog 34 #[.pointer (some ⟨rb, 0, none⟩), .int .i64 a] w (ValGives S rb w (n + 1) (match floatD m r with
        | .ok (f, r') => .ok (.mk 2 0 [] f [], r')
        | .error c => .error c)) := by
  have hst := run_storeF
  have HH := head_any S rb l (w.alloc (.cells #[.int .i64 0, .int .u64 0, .slice none 0 0, .float .f64 0, .slice none 0 0] 27)) (hR.alloc _)
  rw [hh] at HH
  have H := Lib.hid HH
  have hrb : rb < w.heap.size := hR.choose_spec.2.2.2.2.2
  have HS := Lib.hid hR.choose_spec.2.2.2.2.1
  clear HH hR hh
  generalize hy : floatD m r = y
  have HY := Lib.hid hy
  clear hy
  go_enter Try.func34, Try.ntmps34
  go_wp2_with fail
  refine H.out.mono ?_
  rintro e w1 ⟨rfl, hk, hm, hr, hg⟩
  have hblk : w1.heap[w.heap.size]? = _ := (hg.block w.heap.size (by simp) (fun e => by injection e with e; omega)).trans (new_five w _ _)
  have hs1 := hg.size
  simp at hs1
  have hfl := float_any S rb m r w1 hm hr
  rw [HY.out] at hfl
  have HT := Lib.hid hfl
  have HB := Lib.hid hblk
  have HG := Lib.hid hg
  clear hm hr hg hk hblk hfl
  cases y with
  | error c =>
    go_wp2_with fail
    refine HT.out.mono ?_
    rintro e w2 ⟨rfl, hg2⟩
    go_wp2_with fail
    exact ⟨rfl, rfl, kb_trans (kb_trans (World.grownBy_alloc w _ _) HG.out) hg2⟩
  | ok p =>
    obtain ⟨f, r'⟩ := p
    go_wp2_with fail
    refine HT.out.mono ?_
    rintro e w2 ⟨rfl, hf, hr2, hg2⟩
    have hs2 := hg2.size
    have hblk2 := (hg2.block w.heap.size (by omega) (fun e => by injection e with e; omega)).trans HB.out
    obtain ⟨⟨c0, c1, c2, c3, c4⟩, z0, z1, z2, z3, z4⟩ := five_cells hblk2
    have HF := Lib.hid hf
    have HR2 := Lib.hid hr2
    have HG2 := Lib.hid (kb_trans HG.out hg2)
    clear hr2 hg2 hblk2 hf
    go_wp2_with fail
    obtain ⟨r0, r1, r2, r3, r4⟩ := set5_cells c0 c1 c2 c3 c4 (.int .i64 2) (.int .u64 0) (.slice none 0 0) (.float .f64 f) (.slice none 0 0)
    have hfin := value_fin (w := w) (w3 := w2) (n := n + 1) (x := .mk 2 0 [] f []) (v0 := .int .i64 2) (v1 := .int .u64 0) (v2 := .slice none 0 0) (v3 := .float .f64 f) (v4 := .slice none 0 0) hrb HS.out
      ⟨_, _, rfl, by omega, HF.out, by simp, by simp, Or.inl ⟨rfl, rfl⟩, Or.inl ⟨rfl, rfl⟩⟩ HR2.out (kb_trans (World.grownBy_alloc w _ _) HG2.out)
    unfold set5 at r0 r1 r2 r3 r4
    exact bodyPost_ret (v := .agg #[.int .i64 2, .int .u64 0, .slice none 0 0, .float .f64 f, .slice none 0 0]) (by simp [results, Try.results34, go_sem, r0, r1, r2, r3, r4]) rfl ⟨_, rfl, hfin⟩
set_option maxRecDepth 100000 in
set_option maxHeartbeats 1000000 in
theorem value_list (n : Nat) (hIH : ValueOk n) (S : Nat → Prop) (rb : Nat) (l r : List UInt8) (a k m : Nat) (w : World) (ha : a + (n + 1) = 16) (hl : l.length ≤ 1048576) (hR : RestAt S rb w l) (hh : headD l = .ok (k, m, r)) (h0 : k ≠ 0) (h1 : k ≠ 1) (h2 : k ≠ 2) :
    Calls Try.prog 34 #[.pointer (some ⟨rb, 0, none⟩), .int .i64 a] w (ValGives S rb w (n + 1) (match listD (valD n) m r with
        | .ok (xs, r') => .ok (.mk 3 0 [] 0 xs, r')
        | .error c => .error c)) := by
  have hst := run_storeF
  have hless := headD_less hh
  have HH := head_any S rb l (w.alloc (.cells #[.int .i64 0, .int .u64 0, .slice none 0 0, .float .f64 0, .slice none 0 0] 27)) (hR.alloc _)
  rw [hh] at HH
  have H := Lib.hid HH
  have hrb : rb < w.heap.size := hR.choose_spec.2.2.2.2.2
  have HS := Lib.hid hR.choose_spec.2.2.2.2.1
  have hk0 : ((k : Int) == 0) = false := by rw [beq_eq_false_iff_ne]; omega
  have hk1 : ((k : Int) == 1) = false := by rw [beq_eq_false_iff_ne]; omega
  have hk2 : ((k : Int) == 2) = false := by rw [beq_eq_false_iff_ne]; omega
  have HI := Lib.hid hIH
  clear HH hR hh hIH
  generalize hy : listD (valD n) m r = y
  have HY := Lib.hid hy
  clear hy
  go_enter Try.func34, Try.ntmps34
  go_wp2_with fail
  refine H.out.mono ?_
  rintro e w1 ⟨rfl, hk, hm, hr, hg⟩
  have hblk : w1.heap[w.heap.size]? = _ := (hg.block w.heap.size (by simp) (fun e => by injection e with e; omega)).trans (new_five w _ _)
  have hs1 := hg.size
  simp at hs1
  have hfl := list_ok n HI.out S rb m r a w1 ha hm (by omega) hr
  rw [HY.out] at hfl
  have HT := Lib.hid hfl
  have HB := Lib.hid hblk
  have HG := Lib.hid hg
  clear hm hr hg hk hblk hfl
  cases y with
  | error c =>
    clear HY
    go_wp2_with fail
    refine HT.out.mono ?_
    rintro e w2 ⟨rfl, hg2⟩
    go_wp2_with fail
    exact ⟨rfl, rfl, kb_trans (kb_trans (World.grownBy_alloc w _ _) HG.out) hg2⟩
  | ok p =>
    obtain ⟨xs, r'⟩ := p
    have hxl : xs.length ≤ 1048576 := by
      have := listD_less (fun e => valD_less e) m r HY.out
      omega
    clear HY
    go_wp2_with fail
    refine HT.out.mono ?_
    rintro e w2 ⟨v2, rfl, hx, hr2, hg2⟩
    have hs2 := hg2.size
    have hblk2 := (hg2.block w.heap.size (by omega) (fun e => by injection e with e; omega)).trans HB.out
    obtain ⟨⟨c0, c1, c2, c3, c4⟩, z0, z1, z2, z3, z4⟩ := five_cells hblk2
    obtain ⟨sa, sc, rfl⟩ := hx.shape
    have HX := Lib.hid hx
    have HR2 := Lib.hid hr2
    have HG2 := Lib.hid (kb_trans HG.out hg2)
    clear hr2 hg2 hblk2 hx
    go_wp2_with fail
    obtain ⟨r0, r1, r2, r3, r4⟩ := set5_cells c0 c1 c2 c3 c4 (.int .i64 3) (.int .u64 0) (.slice none 0 0) (.float .f64 0) (.slice sa xs.length sc)
    have hfin := value_fin (w := w) (w3 := w2) (n := n + 1) (x := .mk 3 0 [] 0 xs) (v0 := .int .i64 3) (v1 := .int .u64 0) (v2 := .slice none 0 0) (v3 := .float .f64 0) (v4 := .slice sa xs.length sc) hrb HS.out
      (ReadsS.kept (S := fun k => w1.heap.size ≤ k ∧ k < w2.heap.size) (fun k hk => ⟨⟨by omega, hk.2⟩, rfl⟩) (n + 1) _ _ ⟨_, _, rfl, by omega, by omega, by simp, hxl, Or.inl ⟨rfl, rfl⟩, HX.out⟩) HR2.out (kb_trans (World.grownBy_alloc w _ _) HG2.out)
    unfold set5 at r0 r1 r2 r3 r4
    exact bodyPost_ret (v := .agg #[.int .i64 3, .int .u64 0, .slice none 0 0, .float .f64 0, .slice sa xs.length sc]) (by simp [results, Try.results34, go_sem, r0, r1, r2, r3, r4]) rfl ⟨_, rfl, hfin⟩
theorem value_ok : ∀ n, ValueOk n
  | 0 => value_deep
  | n + 1 => by
    intro S rb l a w ha hl hR
    simp only [valD]
    cases hh : headD l with
    | error c => exact value_head (n + 1) S rb l a w (by omega) hR c hh
    | ok p =>
      obtain ⟨k, m, r⟩ := p
      simp only
      by_cases h0 : k = 0
      · subst h0
        rw [if_pos rfl]; exact value_num n S rb l r a m w (by omega) hR hh
      rw [if_neg h0]
      by_cases h1 : k = 1
      · subst h1
        rw [if_pos rfl]
        by_cases hs : r.length < m
        · rw [if_pos hs]; exact value_short n S rb l r a m w (by omega) hR hh hs
        · rw [if_neg hs]; exact value_bytes n S rb l r a m w (by omega) hl hR hh (by omega)
      rw [if_neg h1]
      by_cases h2 : k = 2
      · subst h2
        rw [if_pos rfl]; exact value_real n S rb l r a m w (by omega) hR hh
      · rw [if_neg h2]; exact value_list n (value_ok n) S rb l r a k m w ha hl hR hh h0 h1 h2
end Go.Proofs.Ytgppadnbfggkcaa
