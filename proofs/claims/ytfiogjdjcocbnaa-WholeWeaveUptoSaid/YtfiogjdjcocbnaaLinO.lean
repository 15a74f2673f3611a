/- Of two texts a line is another one: the walk of the laws' awake. -/
import Derived.Test.YtfiogjdjcocbnaaLinN
import Derived.Test.YtfiogjdjcocbnaaLinE
import Derived.Lib.SlBytesConst
namespace Go.Proofs.Ytfiogjdjcocbnaa
open Go.RowKit

theorem bytes_lit (w : World) (l : List UInt8) (fr : Nat × Nat) (hl : l.length ≤ maxLen) : BytesC (fun k => w.heap.size ≤ k ∧ k < w.heap.size + 1) (w.alloc (.cells (bv l).toArray 5 fr)) (.slice (some ⟨w.heap.size, 0, none⟩) l.length l.length) l := by
  refine Or.inr ⟨⟨w.heap.size, 0, none⟩, l.length, rfl, Nat.le_refl _, hl, Or.inr ⟨Nat.le_refl _, Nat.lt_succ_self _⟩, fun j u hj => ?_⟩
  rw [add_pos, Nat.zero_add, World.cell?_alloc_mark]
  simpa using hj
def abc1 : List UInt8 := [97, 10, 98, 10, 99]
def abc2 : List UInt8 := [97, 10, 120, 10, 99]
theorem abc1_lines : linesL abc1 = [[97, 10], [98, 10], [99]] := by decide
theorem abc2_lines : linesL abc2 = [[97, 10], [120, 10], [99]] := by decide
theorem abc_diff : diffN [[97, 10], [98, 10], [99]] [[97, 10], [120, 10], [99]] = [(⟨1, [[98, 10]], [[120, 10]]⟩ : HunkN (List UInt8))] := rfl
set_option maxRecDepth 100000 in
set_option maxHeartbeats 8000000 in
theorem awake7_any (w : World) : Calls Try.prog 18 #[] w fun e w' => e = .returned (.bool true) ∧ Below w.heap.size w w' := by
  have L1 : ∀ W : World, Hid (BytesC (fun k => W.heap.size ≤ k ∧ k < W.heap.size + 1) (W.alloc (.cells #[.int .u8 97, .int .u8 10, .int .u8 98, .int .u8 10, .int .u8 99] 5 (5, 6))) (.slice (some ⟨W.heap.size, 0, none⟩) 5 5) abc1) := fun W => Lib.hid (bytes_lit W abc1 (5, 6) (by decide))
  have L2 : ∀ W : World, Hid (BytesC (fun k => W.heap.size ≤ k ∧ k < W.heap.size + 1) (W.alloc (.cells #[.int .u8 97, .int .u8 10, .int .u8 120, .int .u8 10, .int .u8 99] 5 (5, 6))) (.slice (some ⟨W.heap.size, 0, none⟩) 5 5) abc2) := fun W => Lib.hid (bytes_lit W abc2 (5, 6) (by decide))
  have L3 : ∀ W : World, Hid (BytesC (fun k => W.heap.size ≤ k ∧ k < W.heap.size + 1) (W.alloc (.cells #[.int .u8 97] 5 (1, 2))) (.slice (some ⟨W.heap.size, 0, none⟩) 1 1) [97]) := fun W => Lib.hid (bytes_lit W [97] (1, 2) (by decide))
  have HL1 := Lib.hid L1
  have HL2 := Lib.hid L2
  have HL3 := Lib.hid L3
  clear L1 L2 L3
  have kc := fun (w : World) (C : Array Value) (n c : Nat) => Lib.run_convert_bytes_const (P := Try.prog) w 22 5 C n c Try.underlying22 Try.underlying5
  go_enter Try.func18, Try.ntmps18
  go_wp2_with fail
  refine (split_any _ _ abc1 _ (fun k hk => by simp; omega) (HL1.out w).out (by decide)).mono ?_
  rintro e w1 ⟨v1, rfl, ho1, hb1⟩
  rw [abc1_lines] at ho1
  have O1 := Lib.hid (ownS_c ho1)
  have B1 : Hid (Below w.heap.size w w1) := Lib.hid (((Below.refl w.heap.size w).alloc (Nat.le_refl _) _).trans (hb1.mono (by simp)))
  obtain ⟨a1, c1, rfl⟩ := ownS_slice ho1
  clear ho1 hb1
  go_wp2_with fail
  refine (split_any _ _ abc2 _ (fun k hk => by simp; omega) (HL2.out w1).out (by decide)).mono ?_
  rintro e w2 ⟨v2, rfl, ho2, hb2⟩
  rw [abc2_lines] at ho2
  have O2 := Lib.hid (ownS_c ho2)
  have hb2' : Below w1.heap.size w1 w2 := ((Below.refl w1.heap.size w1).alloc (Nat.le_refl _) _).trans (hb2.mono (by simp))
  have B2 : Hid (Below w.heap.size w w2) := Lib.hid (B1.out.trans (hb2'.mono B1.out.size))
  have O1' := Lib.hid (O1.out.kept (S' := fun k => k < w2.heap.size) (w' := w2) (fun k hk => ⟨by have := hb2'.size; omega, hb2'.block k hk.2⟩))
  obtain ⟨a2, c2, rfl⟩ := ownS_slice ho2
  clear ho2 hb2 hb2' O1
  go_wp2_with fail
  refine (diff_any _ _ _ _ [[97, 10], [98, 10], [99]] [[97, 10], [120, 10], [99]] w2 (fun k hk => hk) (fun k hk => hk.2) O1'.out O2.out (by decide) (by decide) (by decide) (by decide) (by decide)).mono ?_
  rintro e w3 ⟨v3, rfl, hh3, hb3⟩
  rw [abc_diff] at hh3
  have H3 := Lib.hid hh3
  have B3 : Hid (Below w.heap.size w w3) := Lib.hid (B2.out.trans (hb3.mono B2.out.size))
  have O13 := Lib.hid (O1'.out.kept (S' := fun k => k < w2.heap.size) (w' := w3) (fun k hk => ⟨hk, hb3.block k hk⟩))
  have hs3 := hb3.size
  obtain ⟨a3, c3, rfl⟩ := hh3.shape
  clear hh3 hb3 O1' O2
  go_wp2_with fail
  refine (patch_yes _ _ _ _ [[97, 10], [98, 10], [99]] [⟨1, [[98, 10]], [[120, 10]]⟩] w3 (fun k hk => by omega) (fun k hk => hk.2) O13.out H3.out (by decide) (by decide) (by decide) (by decide) (by decide)).mono ?_
  rintro e w4 ⟨v4, rfl, ho4, hb4⟩
  have O4 : Hid (StrsC (fun k => w3.heap.size ≤ k ∧ k < w4.heap.size) w4 v4 [[97, 10], [120, 10], [99]]) := Lib.hid (ownS_c ho4)
  have B4 : Hid (Below w.heap.size w w4) := Lib.hid (B3.out.trans (hb4.mono B3.out.size))
  obtain ⟨g, o, ha3, hg, _, hc3, hcs⟩ := hunk_at (H3.out.kept hunk_keeps (S' := fun k => k < w3.heap.size) (w' := w4) (fun k hk => ⟨hk.2, hb4.block k hk.2⟩)) (by decide)
  subst ha3
  obtain ⟨ax, cx, ay, cy, e0, e1, _, rx, _⟩ := hcs 0 _ rfl
  obtain ⟨gx, ox, hax, _, hcx, hcx2, hxs⟩ := rx.at (by decide)
  subst hax
  have d0 := hxs 0 (by decide)
  obtain ⟨a4, c4, hv4⟩ := O4.out.shape
  subst hv4
  obtain ⟨g4, o4, ha4, _, hc4, hc4b, h4s⟩ := O4.out.at (by decide)
  subst ha4
  have d4 := h4s 1 (by decide)
  have f0 : w4.cell? ⟨g, o, none⟩ = some (.int .i64 1) := by simpa using e0
  have f1 : w4.cell? ⟨g, o + 1, none⟩ = some (.slice (some ⟨gx, ox, none⟩) 1 cx) := by simpa using e1
  have f2 : w4.cell? ⟨gx, ox, none⟩ = some (.string ⟨#[98, 10]⟩) := by simpa using d0
  have f4 : w4.cell? ⟨g4, o4 + 1, none⟩ = some (.string ⟨#[120, 10]⟩) := by simpa using d4
  have hcx' : (1 : Nat) ≤ cx := hcx
  clear ho4 hb4 hcs rx hxs h4s e0 e1 d0 d4 hcx
  go_wp2_with fail
  refine (isText_any _ _ [97] _ (HL3.out w4).out).mono ?_
  rintro e w5 ⟨rfl, rfl⟩
  have ht : isTextB [97] = true := by decide
  rw [ht]
  go_wp2_with fail
  go_ret
  exact ⟨rfl, B4.out.alloc B4.out.size _⟩
end Go.Proofs.Ytfiogjdjcocbnaa
