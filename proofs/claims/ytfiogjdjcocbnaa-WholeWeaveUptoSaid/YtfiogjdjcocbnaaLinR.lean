/- The walk of the law LinesEnds. -/
import Derived.Test.YtfiogjdjcocbnaaLinQ
namespace Go.Proofs.Ytfiogjdjcocbnaa
open Go.RowKit

/-- One list behind another, in new memory. -/
theorem same_all {S T : Nat → Prop} {va vb : Value} {a : List (List UInt8)} {w0 : World} (ha : StrsC S w0 va a) (hb : StrsC T w0 vb a) (hal : a.length ≤ 4194304) (W : World) (h : ∀ k, S k ∨ T k → W.heap[k]? = w0.heap[k]?) :
    Calls Try.prog 20 #[va, vb] W fun e w' => e = .returned (.bool true) ∧ ∃ n, w' = W.drewN n :=
  same_yes S T va vb a a W (ha.kept (fun k hk => ⟨hk, h k (Or.inl hk)⟩)) (hb.kept (fun k hk => ⟨hk, h k (Or.inr hk)⟩)) hal hal rfl
set_option maxRecDepth 100000 in
set_option maxHeartbeats 8000000 in
theorem lends_law (R S T : Nat → Prop) (vh va vb : Value) (h a b : List (List UInt8)) (w : World) (hR : ∀ k, R k → k < w.heap.size) (hS : ∀ k, S k → k < w.heap.size) (hT : ∀ k, T k → k < w.heap.size) (hh : StrsC R w vh h) (ha : StrsC S w va a) (hb : StrsC T w vb b) (hsh : sumL h ≤ 1048576) (hsa : sumL a ≤ 1048576) (hsb : sumL b ≤ 1048576) :
    Calls Try.prog 8 #[vh, va, vb] w (TrueP w) := by
  unfold TrueP
  obtain ⟨i0, hi, hz0, hz1, hz2⟩ := info_parts Try.info9s
  obtain ⟨hhl, hhx⟩ := sum_bounds hsh
  obtain ⟨hal, hax⟩ := sum_bounds hsa
  obtain ⟨hbl, hbx⟩ := sum_bounds hsb
  obtain ⟨ha0, hc0, rfl⟩ := hh.shape
  obtain ⟨aa, ac, rfl⟩ := ha.shape
  obtain ⟨ba, bc, rfl⟩ := hb.shape
  have HR := Lib.hid hR
  have HS := Lib.hid hS
  have HT := Lib.hid hT
  have HH := Lib.hid (fun (W : World) (hb : ∀ k, k < w.heap.size → W.heap[k]? = w.heap[k]?) => hh.kept (S' := R) (w' := W) (fun k hk => ⟨hk, hb k (hR k hk)⟩))
  have HA := Lib.hid (fun (W : World) (hb : ∀ k, k < w.heap.size → W.heap[k]? = w.heap[k]?) => ha.kept (S' := S) (w' := W) (fun k hk => ⟨hk, hb k (hS k hk)⟩))
  have HB := Lib.hid (fun (W : World) (hc : ∀ k, k < w.heap.size → W.heap[k]? = w.heap[k]?) => hb.kept (S' := T) (w' := W) (fun k hk => ⟨hk, hc k (hT k hk)⟩))
  have HAX := Lib.hid hax
  have HBX := Lib.hid hbx
  have HXX : Hid (∀ x ∈ h ++ a, x.length ≤ 4194304) := Lib.hid (fun x hx => (List.mem_append.1 hx).elim (hhx x) (hax x))
  have HYX : Hid (∀ x ∈ h ++ b, x.length ≤ 4194304) := Lib.hid (fun x hx => (List.mem_append.1 hx).elim (hhx x) (hbx x))
  clear hR hS hT hh ha hb hsh hsa hsb hhx hax hbx
  go_enter Try.func8, Try.ntmps8
  go_wp2_with fail
  refine (awake7_any _).mono ?_
  rintro e w1 ⟨rfl, hb1⟩
  have B1 := Lib.hid hb1
  have hs1 := hb1.size
  clear hb1
  by_cases hbig : h.length + a.length ≤ 900 ∧ h.length + b.length ≤ 900
  · obtain ⟨g1, g2⟩ := hbig
    have hD0 := diff_head h a b
    have hxl0 : (h ++ a).length = h.length + a.length := List.length_append
    have hyl0 : (h ++ b).length = h.length + b.length := List.length_append
    obtain ⟨X, hX⟩ : ∃ X, h ++ a = X := ⟨_, rfl⟩
    obtain ⟨Y, hY⟩ : ∃ Y, h ++ b = Y := ⟨_, rfl⟩
    rw [hX, hY] at hD0
    rw [hX] at hxl0 HXX
    rw [hY] at hyl0 HYX
    have HD := Lib.hid hD0
    have HXL := Lib.hid hxl0
    have HYL := Lib.hid hyl0
    have HX0 := Lib.hid hX
    have HY0 := Lib.hid hY
    clear hD0 hxl0 hyl0 hX hY
    obtain ⟨d1, d2, d3, d4⟩ := diff_sizes a b
    have D4 := Lib.hid d4
    have HE0 := Lib.hid (ownS_empty w1)
    have SRC1 : Hid (Src Try.prog 1 24 (.slice ha0 h.length hc0) h.length (sv h) (w1.alloc (.cells #[] 9))) := Lib.hid (HH.out _ (fun k hk => (Below.heap_alloc _ _ k (by omega)).trans (B1.out.block k hk))).src
    go_wp2_with (at_builtin; refine wpList_own_src _ rfl _ _ 24 24 rfl w1.heap.size 9 i0 (.string ByteArray.empty) 1 16 Try.underlying24 hi hz0 hz1 hz2 rfl (by decide) _ _ _ rfl HE0.out _ h.length (sv h) rfl SRC1.out (by unfold maxLen; simp; omega) (by simp; omega) (by simp) ?_)
    intro v2 w2 hown2 hg2
    have O2 : Hid (OwnS w2 w1.heap.size v2 h) := Lib.hid (ownS_more (l := []) (by simp) hown2)
    have B2 : Hid (Below w1.heap.size w1 w2) := Lib.hid (((Below.refl w1.heap.size w1).alloc (Nat.le_refl _) _).grown hg2.gb (by simp) (fun q hq => by simp [Value.ownBlock] at hq; omega))
    obtain ⟨a2, c2, rfl⟩ := ownS_slice O2.out
    have hs2 := B2.out.size
    have SRC2 : Hid (Src Try.prog 1 24 (.slice aa a.length ac) a.length (sv a) w2) := Lib.hid (HA.out _ (fun k hk => (B2.out.block k (by omega)).trans (B1.out.block k hk))).src
    clear hown2 hg2
    go_wp2_with (at_builtin; refine wpList_own_src _ rfl _ _ 24 24 rfl w1.heap.size 9 i0 (.string ByteArray.empty) 1 16 Try.underlying24 hi hz0 hz1 hz2 rfl (by decide) _ _ _ rfl O2.out _ a.length (sv a) rfl SRC2.out (by unfold maxLen; omega) (by omega) (by omega) ?_)
    intro v3 w3 hown3 hg3
    have O3 : Hid (StrsC (fun k => w1.heap.size ≤ k ∧ k < w3.heap.size) w3 v3 X) := Lib.hid (by rw [← HX0.out]; exact ownS_c (ownS_more rfl hown3))
    have B3 : Hid (Below w1.heap.size w1 w3) := Lib.hid (B2.out.grown hg3.gb hs2 (fun q hq => (World.ownsRow.lt O2.out q hq).1))
    obtain ⟨a3, c3, rfl⟩ := O3.out.shape
    have hs3 := B3.out.size
    have HE3 := Lib.hid (ownS_empty w3)
    have SRC3 : Hid (Src Try.prog 1 24 (.slice ha0 h.length hc0) h.length (sv h) (w3.alloc (.cells #[] 9))) := Lib.hid (HH.out _ (fun k hk => ((Below.heap_alloc _ _ k (by omega)).trans (B3.out.block k (by omega))).trans (B1.out.block k hk))).src
    clear hown3 hg3
    go_wp2_with (at_builtin; refine wpList_own_src _ rfl _ _ 24 24 rfl w3.heap.size 9 i0 (.string ByteArray.empty) 1 16 Try.underlying24 hi hz0 hz1 hz2 rfl (by decide) _ _ _ rfl HE3.out _ h.length (sv h) rfl SRC3.out (by unfold maxLen; simp; omega) (by simp; omega) (by simp) ?_)
    intro v4 w4 hown4 hg4
    have O4 : Hid (OwnS w4 w3.heap.size v4 h) := Lib.hid (ownS_more (l := []) (by simp) hown4)
    have B4 : Hid (Below w3.heap.size w3 w4) := Lib.hid (((Below.refl w3.heap.size w3).alloc (Nat.le_refl _) _).grown hg4.gb (by simp) (fun q hq => by simp [Value.ownBlock] at hq; omega))
    obtain ⟨a4, c4, rfl⟩ := ownS_slice O4.out
    have hs4 := B4.out.size
    have SRC4 : Hid (Src Try.prog 1 24 (.slice ba b.length bc) b.length (sv b) w4) := Lib.hid (HB.out _ (fun k hk => ((B4.out.block k (by omega)).trans (B3.out.block k (by omega))).trans (B1.out.block k hk))).src
    clear hown4 hg4
    go_wp2_with (at_builtin; refine wpList_own_src _ rfl _ _ 24 24 rfl w3.heap.size 9 i0 (.string ByteArray.empty) 1 16 Try.underlying24 hi hz0 hz1 hz2 rfl (by decide) _ _ _ rfl O4.out _ b.length (sv b) rfl SRC4.out (by unfold maxLen; omega) (by omega) (by omega) ?_)
    intro v5 w5 hown5 hg5
    have O5 : Hid (StrsC (fun k => w3.heap.size ≤ k ∧ k < w5.heap.size) w5 v5 Y) := Lib.hid (by rw [← HY0.out]; exact ownS_c (ownS_more rfl hown5))
    have B5 : Hid (Below w3.heap.size w3 w5) := Lib.hid (B4.out.grown hg5.gb hs4 (fun q hq => (World.ownsRow.lt O4.out q hq).1))
    obtain ⟨a5, c5, rfl⟩ := O5.out.shape
    have hs5 := B5.out.size
    have O3' := Lib.hid (O3.out.kept (S' := fun k => k < w3.heap.size) (w' := w5) (fun k hk => ⟨hk.2, B5.out.block k hk.2⟩))
    have hb5 : Below w1.heap.size w1 w5 := B3.out.trans (B5.out.mono hs3)
    have BW := Lib.hid (B1.out.trans (hb5.mono hs1))
    have hp1 : X.length * Y.length ≤ 1048576 := by
      rw [HXL.out, HYL.out]
      exact Nat.le_trans (Nat.mul_le_mul g1 g2) (by decide)
    have hp2 : a.length * b.length ≤ 1048576 := Nat.le_trans (Nat.mul_le_mul (show a.length ≤ 900 by omega) (show b.length ≤ 900 by omega)) (by decide)
    have HDF := Lib.hid (diff_any (fun k => k < w3.heap.size) _ _ _ X Y w5 (fun k hk => by omega) (fun k (hk : w3.heap.size ≤ k ∧ k < w5.heap.size) => hk.2) O3'.out O5.out (by rw [HXL.out]; omega) (by rw [HYL.out]; omega) HXX.out HYX.out hp1)
    rw [HD.out] at HDF
    have HDG := Lib.hid (fun W h1 h2 => diff_any S T (.slice aa a.length ac) (.slice ba b.length bc) a b W (fun k hk => by have := HS.out k hk; exact Nat.lt_of_lt_of_le this h1) (fun k hk => by have := HT.out k hk; exact Nat.lt_of_lt_of_le this h1) (HA.out W h2) (HB.out W h2) (by omega) (by omega) HAX.out HBX.out hp2)
    generalize diffN a b = D at *
    obtain ⟨E, hE⟩ : ∃ E, (D.map fun k : HunkN (List UInt8) => (⟨k.place + h.length, k.old, k.new⟩ : HunkN (List UInt8))) = E := ⟨_, rfl⟩
    rw [hE] at HDF
    have HEL : Hid (E.length = D.length) := Lib.hid (by rw [← hE]; simp)
    have HEAT : Hid (∀ (k : Nat) x, D[k]? = some x → E[k]? = some (⟨x.place + h.length, x.old, x.new⟩ : HunkN (List UInt8))) := Lib.hid (fun k x hx => by rw [← hE, List.getElem?_map, hx]; rfl)
    clear hE hown5 hg5 hp1 hp2 d4 HD SRC1 SRC2 SRC3 SRC4 O2 O4 HE0 HE3
    go_wp2_with fail
    refine HDF.out.mono ?_
    rintro e w6 ⟨v6, rfl, hh6, hb6⟩
    have H6 := Lib.hid hh6
    have B6 := Lib.hid (BW.out.trans (hb6.mono BW.out.size))
    obtain ⟨a6, c6, rfl⟩ := hh6.shape
    rw [HEL.out]
    have hs6 := B6.out.size
    clear hh6 hb6 HDF
    go_wp2_with fail
    refine (HDG.out w6 hs6 (fun k hk => B6.out.block k hk)).mono ?_
    rintro e w7 ⟨v7, rfl, hh7, hb7⟩
    have H7 := Lib.hid (fun (W : World) (hb : Below w7.heap.size w7 W) => hh7.kept hunk_keeps (S' := fun k => k < w7.heap.size) (w' := W) (fun k hk => ⟨hk.2, hb.block k hk.2⟩))
    have H6' := Lib.hid (fun (W : World) (hb : Below w7.heap.size w7 W) => H6.out.kept hunk_keeps (S' := fun k => k < w7.heap.size) (w' := W) (fun k hk => ⟨by have := hb7.size; omega, (hb.block k (by have := hb7.size; omega)).trans (hb7.block k hk.2)⟩))
    have B7 := Lib.hid (B6.out.trans (hb7.mono hs6))
    obtain ⟨a7, c7, rfl⟩ := hh7.shape
    clear hh7 hb7 HDG H6
    go_wp2_with fail
    go_loopw [13, 67] (fun _ i wr => ∃ k n : Nat, k ≤ D.length ∧ i = .int .i64 k ∧ wr = w7.drewN n) (fun _ i _ => D.length - (intOf i).toNat)
    case atStart => exact ⟨0, 0, Nat.zero_le _, rfl, rfl⟩
    case round =>
      obtain ⟨k, n, hk, rfl, rfl⟩ := hrel
      by_cases hlt : k < D.length
      · obtain ⟨x, hx⟩ : ∃ x, D[k]? = some x := ⟨_, List.getElem?_eq_getElem hlt⟩
        have hy := HEAT.out k x hx
        obtain ⟨p1, p2, p3, p4⟩ := D4.out x (List.mem_of_getElem? hx)
        have HWX : Hid (∃ m, w7.drewN n = w7.drewN m) := Lib.hid ⟨n, rfl⟩
        have H6W := H6'.out (w7.drewN n) (drewn _ w7 n)
        have H7W := H7.out (w7.drewN n) (drewn _ w7 n)
        generalize w7.drewN n = wx at *
        obtain ⟨g6, o6, hg6, _, _, hc6, hcs6⟩ := hunk_at H6W (by rw [HEL.out]; omega)
        subst hg6
        obtain ⟨g7, o7, hg7, _, _, hc7, hcs7⟩ := hunk_at H7W (by omega)
        subst hg7
        obtain ⟨b1, q1, b2, q2, e0, e1, e2, r1, r2⟩ := hcs6 k _ hy
        obtain ⟨b3, q3, b4, q4, f0, f1, f2, r3, r4⟩ := hcs7 k _ hx
        obtain ⟨pl, old, new⟩ := x
        simp only at e0 e1 e2 f0 f1 f2 r1 r2 r3 r4 p1 p2 p3 p4
        have S1 := Lib.hid (same_all r1 r3 (by omega))
        have S2 := Lib.hid (same_all r2 r4 (by omega))
        have hw1 : IntKind.i64.wrap (pl + (h.length : Int)) = pl + (h.length : Int) := IntWalk.i64_in _ (by omega)
        have hl6 : D.length ≤ c6 := by have := HEL.out; omega
        clear hcs6 hcs7 r1 r2 r3 r4 hx hy H6W H7W
        go_wp2_with fail
        have S1' := Lib.hid (fun m => S1.out (wx.drewN m) (fun _ _ => rfl))
        have S2' := Lib.hid (fun m => S2.out (wx.drewN m) (fun _ _ => rfl))
        go_quiet ((go_at_call 20; first | (with_reducible exact Calls.quiet_of (S1'.out _)) | (with_reducible exact Calls.quiet_of (S2'.out _))))
        go_wp2_with fail
        go_roundw
        case rel =>
          obtain ⟨m, rfl⟩ := HWX.out
          exact ⟨k + 1, _, by omega, by go_num, World.drewN_drewN _ _ _⟩
        case measure => simp [intOf]; omega
      · go_wp2_with fail
        go_ret
        exact ⟨rfl, B7.out.trans (drewn _ w7 n)⟩
  · have hor : 900 < h.length + a.length ∨ (h.length + a.length ≤ 900 ∧ 900 < h.length + b.length) := by omega
    clear hbig
    rcases hor with h1 | ⟨h1, h2⟩
    · go_wp2_with fail
      go_ret
      exact ⟨rfl, B1.out⟩
    · go_wp2_with fail
      go_ret
      exact ⟨rfl, B1.out⟩
end Go.Proofs.Ytfiogjdjcocbnaa
