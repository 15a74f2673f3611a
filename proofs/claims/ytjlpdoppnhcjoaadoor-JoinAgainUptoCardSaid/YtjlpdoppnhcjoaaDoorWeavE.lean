/- The walks of kind and cut. -/
import Derived.Test.YtjlpdoppnhcjoaaDoorWeavMath
import Derived.Test.YtjlpdoppnhcjoaaDoorLinAll
namespace Go.Proofs.YtjlpdoppnhcjoaaDoor
open Go.RowKit

/-- A record of four cells, read back. -/
theorem box4 {w w' : World} {b : Nat} {u0 u1 u2 u3 : Value} {t : TypeId} {m : Nat × Nat} (h : w.heap[b]? = some (.cells #[u0, u1, u2, u3] t m)) (hw : w'.heap[b]? = w.heap[b]?) :
    w'.cell? ⟨b, 0, none⟩ = some u0 ∧ w'.cell? ⟨b, 1, none⟩ = some u1 ∧ w'.cell? ⟨b, 2, none⟩ = some u2 ∧ w'.cell? ⟨b, 3, none⟩ = some u3 := by
  have h2 := hw.trans h
  exact ⟨by rw [cell_of_row _ _ _ _ _ _ h2]; rfl, by rw [cell_of_row _ _ _ _ _ _ h2]; rfl, by rw [cell_of_row _ _ _ _ _ _ h2]; rfl, by rw [cell_of_row _ _ _ _ _ _ h2]; rfl⟩
set_option maxRecDepth 100000 in
set_option maxHeartbeats 4000000 in
theorem kind_any (S T R : Nat → Prop) (k0 : Int) (va vb vc : Value) (a b c : List (List UInt8)) (w : World) (hS : ∀ k, S k → k < w.heap.size) (hT : ∀ k, T k → k < w.heap.size) (hR : ∀ k, R k → k < w.heap.size) (ha : StrsC S w va a) (hb : StrsC T w vb b) (hc : StrsC R w vc c) (hal : a.length ≤ 4194304) (hbl : b.length ≤ 4194304) (hcl : c.length ≤ 4194304) :
    Calls Tryd.prog 80 #[.agg #[.int .i64 k0, va, vb, vc]] w fun e w' => e = .returned (.int .i64 (kindN a b c)) ∧ Below w.heap.size w w' := by
  have HAB := Lib.hid (fun (W : World) (h : Below w.heap.size w W) => equal_any S T va vb a b W (ha.kept (fun k hk => ⟨hk, h.block k (hS k hk)⟩)) (hb.kept (fun k hk => ⟨hk, h.block k (hT k hk)⟩)) hal hbl)
  have HAC := Lib.hid (fun (W : World) (h : Below w.heap.size w W) => equal_any S R va vc a c W (ha.kept (fun k hk => ⟨hk, h.block k (hS k hk)⟩)) (hc.kept (fun k hk => ⟨hk, h.block k (hR k hk)⟩)) hal hcl)
  have HBC := Lib.hid (fun (W : World) (h : Below w.heap.size w W) => equal_any T R vb vc b c W (hb.kept (fun k hk => ⟨hk, h.block k (hT k hk)⟩)) (hc.kept (fun k hk => ⟨hk, h.block k (hR k hk)⟩)) hbl hcl)
  obtain ⟨aa, ac, rfl⟩ := ha.shape
  obtain ⟨ba, bc, rfl⟩ := hb.shape
  obtain ⟨ca, cc, rfl⟩ := hc.shape
  obtain ⟨kk, hkk⟩ : ∃ kk, kindN a b c = kk := ⟨_, rfl⟩
  rw [hkk]
  have HK : Hid ((if decide (a = b) && decide (a = c) then 0 else if decide (a = c) then 1 else if decide (a = b) then 2 else if decide (b = c) then 3 else 4) = kk) := Lib.hid (by rw [← hkk]; unfold kindN; simp)
  generalize decide (a = b) = q1 at *
  generalize decide (a = c) = q2 at *
  generalize decide (b = c) = q3 at *
  clear ha hb hc hkk hS hT hR
  go_enter Tryd.func80, Tryd.ntmps80
  go_wp2_with fail
  have HBX := Lib.hid (new_five w #[.int .i64 k0, .slice aa a.length ac, .slice ba b.length bc, .slice ca c.length cc] 134)
  have HB0 : Hid (Below w.heap.size w (w.alloc (.cells #[.int .i64 k0, .slice aa a.length ac, .slice ba b.length bc, .slice ca c.length cc] 134))) := Lib.hid ((Below.refl w.heap.size w).alloc (Nat.le_refl _) _)
  generalize w.alloc (.cells #[.int .i64 k0, .slice aa a.length ac, .slice ba b.length bc, .slice ca c.length cc] 134) = wp at *
  obtain ⟨z0, z1, z2, z3⟩ := box4 HBX.out rfl
  have Q1 := Lib.hid (fun n => HAB.out (wp.drewN n) (HB0.out.trans (drewn _ _ _)))
  have Q2 := Lib.hid (fun n => HAC.out (wp.drewN n) (HB0.out.trans (drewn _ _ _)))
  go_quiet ((go_at_call 90; first | (with_reducible exact Calls.quiet_of (Q1.out _)) | (with_reducible exact Calls.quiet_of (Q2.out _))))
  have B2 := Lib.hid (HB0.out.trans (drewn w.heap.size wp nq))
  obtain ⟨y0, y1, y2, y3⟩ := box4 (w' := wp.drewN nq) HBX.out rfl
  clear z0 z1 z2 z3 Q1 Q2 HBX HB0
  generalize wp.drewN nq = wq at *
  have Q3 := Lib.hid (HBC.out wq B2.out)
  clear HAB HAC HBC
  cases q1 <;> cases q2
  · go_wp2_with fail
    refine Q3.out.mono ?_
    rintro e w5 ⟨rfl, n5, rfl⟩
    cases q3
    all_goals
      go_wp2_with fail
      go_ret
      exact ⟨by rw [← HK.out]; rfl, B2.out.trans (drewn _ _ _)⟩
  all_goals
    go_wp2_with fail
    go_ret
    exact ⟨by rw [← HK.out]; rfl, B2.out⟩
/-- What cut leaves. -/
def CutP (S : Nat → Prop) (w : World) (rb ro : Nat) (t d : List (List UInt8)) (e : Ending) (w' : World) : Prop := ∃ v v2 w1, e = .returned v ∧ w' = w1.setCell ⟨rb, ro, none⟩ v2 ∧ OwnS w1 w.heap.size v t ∧ StrsC S w1 v2 d ∧ Below w.heap.size w w1
set_option maxRecDepth 100000 in
set_option maxHeartbeats 4000000 in
theorem cut_any (S : Nat → Prop) (rb ro : Nat) (va : Value) (l : List (List UInt8)) (n : Nat) (w : World) (hS : ∀ k, S k → k < w.heap.size) (hrb : rb < w.heap.size) (h0 : w.cell? ⟨rb, ro, none⟩ = some va) (hf : w.frozen? ⟨rb, ro, none⟩ = false) (ha : StrsC S w va l) (hn : n ≤ l.length) (hl : l.length ≤ 4194304) :
    Calls Tryd.prog 79 #[.pointer (some ⟨rb, ro, none⟩), .int .i64 (n : Int)] w (CutP S w rb ro (l.take n) (l.drop n)) := by
  obtain ⟨aa, ac, rfl⟩ := ha.shape
  obtain ⟨a1, c1, hr1, hs1⟩ := ha.cutH hn
  obtain ⟨a2, c2, hr2, hs2⟩ := ha.cutL hn
  have htl : (l.take n).length = n := by simp; omega
  have HC := Lib.hid (clone_any S (.slice a1 (l.take n).length c1) (l.take n) w hS hs1 (by omega))
  have HS2 := Lib.hid (fun (W : World) (h : Below w.heap.size w W) => hs2.kept (S' := S) (w' := W) (fun k hk => ⟨hk, h.block k (hS k hk)⟩))
  have HF := Lib.hid (fun (W : World) (h : Below w.heap.size w W) => (World.cell?_of_block (w := w) (a := ⟨rb, ro, none⟩) (h.block rb hrb)).trans h0)
  have HFZ := Lib.hid (fun (W : World) (h : Below w.heap.size w W) => (World.frozen?_of_block (w := w) (a := ⟨rb, ro, none⟩) (h.block rb hrb)).trans hf)
  have HD : Hid (l.drop n = l.drop n) := Lib.hid rfl
  generalize l.take n = t at *
  rw [htl] at HC
  generalize hd : l.drop n = d at *
  clear hd HD ha hs1 hs2
  go_enter Tryd.func79, Tryd.ntmps79
  go_wp2_with fail
  refine HC.out.mono ?_
  rintro e w1 ⟨v1, rfl, ho1, hb1⟩
  have B1 := Lib.hid hb1
  have O1 := Lib.hid ho1
  have g0 := HF.out w1 hb1
  have g1 := HFZ.out w1 hb1
  have S2 := Lib.hid (HS2.out w1 hb1)
  obtain ⟨v1a, v1c, rfl⟩ := ownS_slice ho1
  rw [htl] at O1
  clear ho1 hb1 h0 hf HC HF HFZ HS2
  go_wp2_with fail
  go_ret
  exact ⟨_, _, w1, rfl, rfl, O1.out, S2.out, B1.out⟩
end Go.Proofs.YtjlpdoppnhcjoaaDoor
