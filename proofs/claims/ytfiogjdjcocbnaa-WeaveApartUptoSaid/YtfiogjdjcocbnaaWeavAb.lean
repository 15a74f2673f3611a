/- The walk of the laws' three. -/
import Derived.Test.YtfiogjdjcocbnaaWeavX
namespace Go.Proofs.Ytfiogjdjcocbnaa
open Go.RowKit

set_option maxRecDepth 100000 in
set_option maxHeartbeats 4000000 in
theorem three_any (S R : Nat → Prop) (va vc : Value) (x y : List (List UInt8)) (m : List UInt8) (w : World) (hS : ∀ k, S k → k < w.heap.size) (hR : ∀ k, R k → k < w.heap.size) (ha : StrsC S w va x) (hc : StrsC R w vc y) (hxl : x.length ≤ 33554432) (hyl : y.length ≤ 33554432) :
    Calls Try.prog 44 #[va, .string ⟨m.toArray⟩, vc] w fun e w' => ∃ v, e = .returned v ∧ OwnS w' w.heap.size v (x ++ m :: y) ∧ Below w.heap.size w w' := by
  obtain ⟨i0, hi, hz0, hz1, hz2⟩ := info_parts Try.info9s
  obtain ⟨aa, ac, rfl⟩ := ha.shape
  obtain ⟨ca, cc, rfl⟩ := hc.shape
  have HE0 := Lib.hid (ownS_empty w)
  have SRC1 : Hid (Src Try.prog 1 24 (.slice aa x.length ac) x.length (sv x) (w.alloc (.cells #[] 9))) := Lib.hid (ha.kept (S' := S) (fun k hk => ⟨hk, Below.heap_alloc _ _ k (hS k hk)⟩)).src
  have HC := Lib.hid (fun (W : World) (h : Below w.heap.size w W) => (hc.kept (S' := R) (w' := W) (fun k hk => ⟨hk, h.block k (hR k hk)⟩)).src)
  have HB0 := Lib.hid (Below.refl w.heap.size w)
  clear ha hc hS hR
  go_enter Try.func44, Try.ntmps44
  go_wp2_with (at_builtin; refine wpList_own_src _ rfl _ _ 24 24 rfl w.heap.size 9 i0 (.string ByteArray.empty) 1 16 Try.underlying24 hi hz0 hz1 hz2 rfl (by decide) _ _ _ rfl HE0.out _ x.length (sv x) rfl SRC1.out (by unfold maxLen; simp; omega) (by simp; omega) (by simp) ?_)
  intro v2 w2 hown2 hg2
  have O2 : Hid (OwnS w2 w.heap.size v2 x) := Lib.hid (by have h := ownS_more (l := []) (r := x) (by simp) hown2; exact h)
  have B2 : Hid (Below w.heap.size w w2) := Lib.hid ((HB0.out.alloc (Nat.le_refl _) _).grown hg2.gb (by simp) (fun q hq => (World.ownsRow.lt HE0.out q hq).1))
  obtain ⟨a2, c2, rfl⟩ := ownS_slice O2.out
  clear hown2 hg2 HE0 SRC1
  have hs2 := B2.out.size
  have O2a : Hid (OwnS (w2.alloc (.cells #[.string ⟨m.toArray⟩] 9)) w.heap.size (.slice a2 x.length c2) x) := Lib.hid (World.ownsRow.alloc O2.out _)
  have B2a : Hid (Below w.heap.size w (w2.alloc (.cells #[.string ⟨m.toArray⟩] 9))) := Lib.hid (B2.out.alloc hs2 _)
  have SRC2 := Lib.hid (srcS_one w2 ⟨m.toArray⟩)
  go_wp2_with (at_builtin; refine wpList_own_src _ rfl _ _ 24 24 rfl w.heap.size 9 i0 (.string ByteArray.empty) 1 16 Try.underlying24 hi hz0 hz1 hz2 rfl (by decide) _ _ _ rfl O2a.out _ 1 [.string ⟨m.toArray⟩] rfl SRC2.out (by unfold maxLen; omega) (by omega) (by simp; omega) ?_)
  intro v3 w3 hown3 hg3
  obtain ⟨X, hX⟩ : ∃ X, x ++ [m] = X := ⟨_, rfl⟩
  have HX := Lib.hid hX
  have O3 : Hid (OwnS w3 w.heap.size v3 X) := Lib.hid (by rw [← hX]; exact ownS_push hown3)
  have hXl : X.length ≤ 33554433 := by rw [← hX]; simp; omega
  have B3 : Hid (Below w.heap.size w w3) := Lib.hid (B2a.out.grown hg3.gb B2a.out.size (fun q hq => (World.ownsRow.lt O2a.out q hq).1))
  obtain ⟨a3, c3, rfl⟩ := ownS_slice O3.out
  have hs3 := B3.out.size
  have SRC3 := Lib.hid (HC.out w3 B3.out)
  clear hown3 hg3 hX O2 O2a SRC2 B2 B2a
  go_wp2_with (at_builtin; refine wpList_own_src _ rfl _ _ 24 24 rfl w.heap.size 9 i0 (.string ByteArray.empty) 1 16 Try.underlying24 hi hz0 hz1 hz2 rfl (by decide) _ _ _ rfl O3.out _ y.length (sv y) rfl SRC3.out (by unfold maxLen; omega) (by omega) hs3 ?_)
  intro v4 w4 hown4 hg4
  have O4 : Hid (OwnS w4 w.heap.size v4 (X ++ y)) := Lib.hid (ownS_more rfl hown4)
  have B4 : Hid (Below w.heap.size w w4) := Lib.hid (B3.out.grown hg4.gb hs3 (fun q hq => (World.ownsRow.lt O3.out q hq).1))
  clear hown4 hg4
  go_wp2_with fail
  go_ret
  exact ⟨_, rfl, by have h := O4.out; rw [← HX.out, List.append_assoc] at h; exact h, B4.out⟩
end Go.Proofs.Ytfiogjdjcocbnaa
