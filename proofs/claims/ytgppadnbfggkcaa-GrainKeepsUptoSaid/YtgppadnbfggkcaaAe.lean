/- The walks of the laws GrainWrites and GrainReads. -/
import Derived.Test.YtgppadnbfggkcaaAd
namespace Go.Proofs.Ytgppadnbfggkcaa
open Go.RowKit

def True' (w : World) (e : Ending) (w' : World) : Prop := e = .returned (.bool true) ∧ Below w.heap.size w w'
theorem Reads.step {w w1 : World} {n : Nat} {v : Value} {x : Val} (h : Reads w.heap.size w n v x) (hb : Below w.heap.size w w1) : Reads w1.heap.size w1 n v x := Reads.mono hb.size n _ _ (Reads.below hb n _ _ h)
set_option maxRecDepth 100000 in
set_option maxHeartbeats 1000000 in
theorem law_writes (xv : Value) (x : Val) (w : World) (hR : Reads w.heap.size w 16 xv x) : Calls Try.prog 3 #[xv] w (True' w) := by
  have hst := run_storeF
  have HR := Lib.hid hR
  obtain ⟨k, u, b, f, l⟩ := x
  obtain ⟨a1, n1, p1, a2, n2, p2, rfl⟩ := hR.shape
  clear hR
  go_enter Try.func3, Try.ntmps3
  go_wp2_with fail
  refine (awake_any _).mono ?_
  rintro e w1 ⟨rfl, hb1⟩
  have hs1 := hb1.size
  simp at hs1
  obtain ⟨⟨c0, c1, c2, c3, c4⟩, _⟩ := five_cells ((hb1.block w.heap.size (by simp)).trans (new_five w _ 27))
  have HB1 := Lib.hid (((Below.refl _ w).alloc (Nat.le_refl _) _).trans (hb1.mono (by simp)))
  clear hb1
  go_wp2_with fail
  have henc := encode_any _ _ w1 (HR.out.step HB1.out)
  have hrenc := fun w2 (hb2 : Below w1.heap.size w1 w2) => rencode_any _ _ w2 (HR.out.step (HB1.out.trans (hb2.mono (by omega))))
  have HRE := Lib.hid hrenc
  clear hrenc
  generalize encR (.mk k u b f l) = r at *
  refine henc.mono ?_
  clear henc
  cases r with
  | error c =>
    rintro e w2 ⟨rfl, hb2⟩
    have hs2 := hb2.size
    have d0 := (hb2.cell (p := ⟨w.heap.size, 0, none⟩) (by show w.heap.size < _; omega)).trans c0
    have d1 := (hb2.cell (p := ⟨w.heap.size, 1, none⟩) (by show w.heap.size < _; omega)).trans c1
    have d2 := (hb2.cell (p := ⟨w.heap.size, 2, none⟩) (by show w.heap.size < _; omega)).trans c2
    have d3 := (hb2.cell (p := ⟨w.heap.size, 3, none⟩) (by show w.heap.size < _; omega)).trans c3
    have d4 := (hb2.cell (p := ⟨w.heap.size, 4, none⟩) (by show w.heap.size < _; omega)).trans c4
    have HB2 := Lib.hid (HB1.out.trans (hb2.mono (by omega)))
    have HC := Lib.hid (HRE.out w2 hb2)
    have hcv := nil_string
    clear hb2 c0 c1 c2 c3 c4
    go_wp2_with fail
    refine HC.out.mono ?_
    rintro e w3 ⟨rfl, hb3⟩
    have HB3 := Lib.hid (HB2.out.trans (hb3.mono (by omega)))
    clear hb3 d0 d1 d2 d3 d4
    go_wp2_with fail
    go_ret
    exact ⟨rfl, HB3.out⟩
  | ok o =>
    rintro e w2 ⟨v2, rfl, hown, hb2⟩
    have hs2 := hb2.size
    have d0 := (hb2.cell (p := ⟨w.heap.size, 0, none⟩) (by show w.heap.size < _; omega)).trans c0
    have d1 := (hb2.cell (p := ⟨w.heap.size, 1, none⟩) (by show w.heap.size < _; omega)).trans c1
    have d2 := (hb2.cell (p := ⟨w.heap.size, 2, none⟩) (by show w.heap.size < _; omega)).trans c2
    have d3 := (hb2.cell (p := ⟨w.heap.size, 3, none⟩) (by show w.heap.size < _; omega)).trans c3
    have d4 := (hb2.cell (p := ⟨w.heap.size, 4, none⟩) (by show w.heap.size < _; omega)).trans c4
    have HB2 := Lib.hid (HB1.out.trans (hb2.mono (by omega)))
    have HC := Lib.hid (HRE.out w2 hb2)
    have HO := Lib.hid (own_bytes hown (Nat.le_refl _))
    obtain ⟨sa, sc, rfl⟩ := own_slice hown
    clear hb2 c0 c1 c2 c3 c4 hown
    go_wp2_with fail
    refine HC.out.mono ?_
    rintro e w3 ⟨rfl, hb3⟩
    have HB3 := Lib.hid (HB2.out.trans (hb3.mono (by omega)))
    have hcv := bytes_string (HO.out.below hb3)
    clear hb3 d0 d1 d2 d3 d4
    go_wp2_with fail
    go_ret
    exact ⟨rfl, HB3.out⟩
set_option maxRecDepth 100000 in
set_option maxHeartbeats 1000000 in
theorem law_reads (v : Value) (l : List UInt8) (w : World) (hl : l.length ≤ 281474976710656) (hb : BytesC (fun k => k < w.heap.size) w v l) : Calls Try.prog 4 #[v] w (True' w) := by
  have hst := run_storeF
  have HB := Lib.hid hb
  obtain ⟨sa, sc, rfl⟩ := hb.shape
  clear hb
  go_enter Try.func4, Try.ntmps4
  go_wp2_with fail
  refine (awake_any _).mono ?_
  rintro e w1 ⟨rfl, hb1⟩
  have hs1 := hb1.size
  have HB1 := Lib.hid hb1
  have HC1 := Lib.hid (HB.out.kept (S' := fun k => k < w1.heap.size) (fun k hk => ⟨by omega, hb1.block k hk⟩))
  clear hb1
  go_wp2_with fail
  refine (decode_any _ _ l w1 (fun k hk => hk) HC1.out).mono ?_
  have hrd := fun w2 => rdecode_any l w2 hl
  have HRD := Lib.hid hrd
  have hdeep : ∀ x, decR l = .ok x → Deep 16 x := by
    intro x hx
    unfold decR at hx
    split at hx
    · cases hx
    cases hv : valD 16 l with
    | error c => rw [hv] at hx; cases hx
    | ok p =>
      obtain ⟨y, r⟩ := p
      rw [hv] at hx
      cases r with
      | cons c r => cases hx
      | nil => injection hx with hx; subst hx; exact valD_deep hv
  have HDP := Lib.hid hdeep
  clear hrd hdeep
  generalize decR l = r at *
  cases r with
  | error c =>
    rintro e w2 ⟨rfl, hb2⟩
    have hs2 := hb2.size
    have HB2 := Lib.hid (HB1.out.trans (hb2.mono (by omega)))
    have hcv := bytes_string ((HC1.out.into (B := w1.heap.size) (fun k hk => hk)).below (hb2.alloc (by omega) (.cells #[.int .i64 0, .int .u64 0, .slice none 0 0, .float .f64 0, .slice none 0 0] 27)))
    clear hb2
    go_wp2_with fail
    refine (HRD.out _).mono ?_
    rintro e w3 ⟨rfl, _, hb3⟩
    have hs3 := hb3.size
    simp at hs3
    have d := five_cells ((hb3.block w2.heap.size (by simp)).trans (new_five w2 #[.int .i64 0, .int .u64 0, .slice none 0 0, .float .f64 0, .slice none 0 0] 27))
    have d' := five_cells ((Below.heap_alloc w3 (.cells #[.int .i64 0, .int .u64 0, .slice none 0 0, .float .f64 0, .slice none 0 0] 27) w2.heap.size (by omega)).trans ((hb3.block w2.heap.size (by simp)).trans (new_five w2 #[.int .i64 0, .int .u64 0, .slice none 0 0, .float .f64 0, .slice none 0 0] 27)))
    obtain ⟨⟨c0, c1, c2, c3, c4⟩, _⟩ := d'
    have HB3 := Lib.hid ((HB2.out.alloc (by omega) _).trans (hb3.mono (by simp; omega)))
    have hz : Reads 0 (w3.alloc (.cells #[.int .i64 0, .int .u64 0, .slice none 0 0, .float .f64 0, .slice none 0 0] 27)) 1 (.agg #[.int .i64 0, .int .u64 0, .slice none 0 0, .float .f64 0, .slice none 0 0]) (.mk 0 0 [] 0 []) :=
      ⟨_, _, rfl, by omega, by omega, by simp, by simp, Or.inl ⟨rfl, rfl⟩, Or.inl ⟨none, 0, rfl, rfl⟩⟩
    have HZ := Lib.hid (same_ok 1 0 _ _ _ _ (Nat.zero_le _) (show Deep 1 (.mk 0 0 [] 0 []) from fun y hy => by simp at hy) hz hz)
    clear hb3 hcv d hz
    go_wp2_with fail
    refine HZ.out.mono ?_
    rintro e w4 ⟨rfl, hb4⟩
    have HB4 := Lib.hid ((HB3.out.alloc (by omega) _).trans (hb4.mono (by simp; omega)))
    clear hb4
    go_wp2_with fail
    go_ret
    exact ⟨rfl, HB4.out⟩
  | ok x =>
    rintro e w2 ⟨v2, rfl, hx2, hb2⟩
    have hs2 := hb2.size
    have HX2 := Lib.hid hx2
    obtain ⟨k', u', b', f', l'⟩ := x
    obtain ⟨a1, n1, p1, a2, n2, p2, rfl⟩ := hx2.shape
    have HB2 := Lib.hid (HB1.out.trans (hb2.mono (by omega)))
    have hcv := bytes_string ((HC1.out.into (B := w1.heap.size) (fun k hk => hk)).below (hb2.alloc (by omega) (.cells #[.int .i64 k', .int .u64 u', .slice a1 n1 p1, .float .f64 f', .slice a2 n2 p2] 27)))
    clear hb2 hx2
    go_wp2_with fail
    refine (HRD.out _).mono ?_
    rintro e w3 ⟨v3, rfl, hx3, hb3⟩
    have hs3 := hb3.size
    simp at hs3
    have HX3 := Lib.hid hx3
    obtain ⟨b1, m1, q1, b2, m2, q2, rfl⟩ := hx3.shape
    obtain ⟨⟨c0, c1, c2, c3, c4⟩, _⟩ := five_cells ((Below.heap_alloc w3 (.cells #[.int .i64 k', .int .u64 u', .slice b1 m1 q1, .float .f64 f', .slice b2 m2 q2] 27) w2.heap.size (by omega)).trans ((hb3.block w2.heap.size (by simp)).trans (new_five w2 #[.int .i64 k', .int .u64 u', .slice a1 n1 p1, .float .f64 f', .slice a2 n2 p2] 27)))
    have HB3 := Lib.hid ((HB2.out.alloc (by omega) _).trans (hb3.mono (by simp; omega)))
    have r2 : Reads w3.heap.size (w3.alloc (.cells #[.int .i64 k', .int .u64 u', .slice b1 m1 q1, .float .f64 f', .slice b2 m2 q2] 27)) 16 _ _ := ReadsS.into (S := fun j => j < w3.heap.size) (fun j hj => hj) 16 _ _
      (ReadsS.kept (fun j hj => ⟨by omega, (Below.heap_alloc _ _ _ (by omega)).trans ((hb3.block j (by simp; omega)).trans (Below.heap_alloc _ _ _ hj.2))⟩) 16 _ _ HX2.out)
    have r3 : Reads w3.heap.size (w3.alloc (.cells #[.int .i64 k', .int .u64 u', .slice b1 m1 q1, .float .f64 f', .slice b2 m2 q2] 27)) 16 _ _ := ReadsS.into (S := fun j => j < w3.heap.size) (fun j hj => hj) 16 _ _
      (ReadsS.kept (fun j hj => ⟨hj.2, Below.heap_alloc _ _ _ hj.2⟩) 16 _ _ HX3.out)
    have HZ := Lib.hid (same_ok 16 _ _ _ _ _ (by simp) (HDP.out _ rfl) r2 r3)
    clear hb3 hcv hx3 r2 r3
    go_wp2_with fail
    refine HZ.out.mono ?_
    rintro e w4 ⟨rfl, hb4⟩
    have HB4 := Lib.hid ((HB3.out.alloc (by omega) _).trans (hb4.mono (by simp; omega)))
    clear hb4
    go_wp2_with fail
    go_ret
    exact ⟨rfl, HB4.out⟩
end Go.Proofs.Ytgppadnbfggkcaa
