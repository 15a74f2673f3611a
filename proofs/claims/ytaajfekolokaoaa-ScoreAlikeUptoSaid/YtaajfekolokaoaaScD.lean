/- Moves as records; the walks of cmp.Or and of score.order. -/
import Derived.Test.YtaajfekolokaoaaScC
import Derived.Test.YtaajfekolokaoaaDraw
namespace Go.Proofs.Ytaajfekolokaoaa
open Go.RowKit

theorem wpAnyD_one {P : Program} {ops : Array Oper} {md : Region.Mode} {Q : Exit → Act → World → Prop} {S : World → Prop} {t i fuel : Nat} {o : Oper} {listed : Array Bool} {a : Act} {w : World} (hr : Region.ready md ops listed = [i]) (hit : i ≠ t) (hi : ops[i]? = some o)
    (h : ∀ n (K : Act → World → Prop), (∀ a' w', S w' → wpAnyD P md ops Q S t fuel (listed.setIfInBounds i true) a' w' → K a' w') → if Region.wanted o (yielded ops a.tmps) = true then Oper.wp P o a (w.drewN n) K Q else K (a.put o.dst undef) (w.drewN n)) : wpAnyD P md ops Q S t (fuel + 1) listed a w := by
  refine ⟨fun h0 => (by rw [h0] at hr; cases hr), fun j hj _ n => ?_, fun ht => (by rw [hr, List.mem_singleton] at ht; exact absurd ht.symm hit)⟩
  rw [hr, List.mem_singleton] at hj
  subst hj
  have h1 := h n _ (fun a' w' h2 h3 => And.intro h2 h3)
  unfold Go.wpOp
  simp only [hi]
  split at h1
  · rename_i hw; rw [if_pos hw]; exact Or.inl h1
  · rename_i hw; rw [if_neg hw]; exact h1
def firstNZ : List Int → Int | [] => 0 | x :: r => if x = 0 then firstNZ r else x
theorem dropI {l : List Int} {k : Nat} (h : k < l.length) : l.drop k = l.getD k 0 :: l.drop (k + 1) := by
  rw [List.drop_eq_getElem_cons h]
  simp [List.getD, List.getElem?_eq_getElem h]
set_option maxRecDepth 100000 in
set_option maxHeartbeats 400000 in
theorem or_any (g : Nat) (l : List Int) (w : World) (hl : l.length = 3) (hc : ∀ k, k < 3 → w.cell? ⟨g, k, none⟩ = some (.int .i64 (l.getD k 0))) :
    Calls Try.prog 42 #[.slice (some ⟨g, 0, none⟩) 3 3] w fun e w' => e = .returned (.int .i64 (firstNZ l)) ∧ w = w' := by
  obtain ⟨R, hR⟩ : ∃ R, firstNZ l = R := ⟨_, rfl⟩
  rw [hR]
  have HC := Lib.hid hc
  have HL := Lib.hid hl
  have H0 : Hid (firstNZ (l.drop 0) = R) := Lib.hid hR
  clear hc hl hR
  go_enter Try.func42, Try.ntmps42
  go_wp2_with fail
  go_loopw [8] (fun i wr => ∃ k : Nat, k ≤ 3 ∧ i = .int .i64 (k : Int) ∧ Hid (firstNZ (l.drop k) = R) ∧ wr = w) (fun i _ => 3 - (intOf i).toNat)
  case atStart => exact ⟨0, by omega, rfl, H0, rfl⟩
  case round =>
    obtain ⟨k, hk, rfl, hE, rfl⟩ := hrel
    by_cases hlt : k < 3
    · have hck := HC.out k hlt
      have HE : Hid (firstNZ (l.getD k 0 :: l.drop (k + 1)) = R) := Lib.hid (by rw [← dropI (by rw [HL.out]; exact hlt)]; exact hE.out)
      generalize l.getD k 0 = x at *
      clear hE
      by_cases hx : x = 0
      · have HE2 : Hid (firstNZ (l.drop (k + 1)) = R) := Lib.hid (by have h := HE.out; unfold firstNZ at h; rwa [if_pos hx] at h)
        have hx2 : (x != 0) = false := by rw [hx]; rfl
        clear HE hx
        go_wp2_with fail
        go_roundw
        case rel => exact ⟨k + 1, by omega, by go_num, HE2, by first | rfl | trivial⟩
        case measure => simp [intOf]; omega
      · have HE2 : Hid (x = R) := Lib.hid (by have h := HE.out; unfold firstNZ at h; rwa [if_neg hx] at h)
        have hx2 : (x != 0) = true := by rw [bne_iff_ne]; exact hx
        clear HE hx
        go_wp2_with fail
        go_ret
        exact ⟨by rw [HE2.out]; rfl, rfl⟩
    · have HE2 : Hid (R = 0) := Lib.hid (by rw [← hE.out, List.drop_of_length_le (by rw [HL.out]; omega)]; rfl)
      have hk3 : k = 3 := by omega
      clear hE
      go_wp2_with fail
      go_ret
      exact ⟨by rw [HE2.out]; rfl, rfl⟩

structure Mv where
  fr : List UInt8
  ed : List UInt8
  sc : Nat
def mvL (m : Mv) : List Value := [.string ⟨m.fr.toArray⟩, .string ⟨m.ed.toArray⟩, .float .f64 m.sc]
def ordN (m n : Mv) : Int := firstNZ [cmpN (keyN n.sc) (keyN m.sc), cmpP m.fr n.fr, cmpP m.ed n.ed]
def MvOk (m : Mv) : Prop := m.fr.length ≤ 4194304 ∧ m.ed.length ≤ 4194304 ∧ m.sc < 18446744073709551616
set_option maxRecDepth 100000 in
set_option maxHeartbeats 4000000 in
theorem order_any (m n : Mv) (w : World) (hm : MvOk m) (hn : MvOk n) : Calls Try.prog 28 #[.agg (mvL m).toArray, .agg (mvL n).toArray] w fun e w' => e = .returned (.int .i64 (ordN m n)) ∧ Below w.heap.size w w' := by
  obtain ⟨mf, mt, ms⟩ := m
  obtain ⟨nf, nt, ns⟩ := n
  obtain ⟨m1, m2, m3⟩ := hm
  obtain ⟨n1, n2, n3⟩ := hn
  dsimp only at m1 m2 m3 n1 n2 n3
  have HX := Lib.hid (st_compare_any ns ms n3 m3)
  have HY := Lib.hid (fun W => compare_any mf nf W (by omega) (by omega))
  have HZ := Lib.hid (fun W => compare_any mt nt W (by omega) (by omega))
  have HO : Hid (ordN ⟨mf, mt, ms⟩ ⟨nf, nt, ns⟩ = firstNZ [cmpN (keyN ns) (keyN ms), cmpP mf nf, cmpP mt nt]) := Lib.hid rfl
  generalize cmpN (keyN ns) (keyN ms) = X at *
  generalize cmpP mf nf = Y at *
  generalize cmpP mt nt = Z at *
  clear m1 m2 m3 n1 n2 n3
  obtain ⟨w2, hw2⟩ : ∃ w2, w2 = ((w.alloc (.cells (mvL ⟨mf, mt, ms⟩).toArray 43)).alloc (.cells (mvL ⟨nf, nt, ns⟩).toArray 43)) := ⟨_, rfl⟩
  have I4 : Hid (Below w.heap.size w w2) := Lib.hid (by rw [hw2]; exact ((Below.refl w.heap.size w).alloc (Nat.le_refl _) _).alloc (by simp) _)
  have HSC : Hid (∀ W, Below w2.heap.size w2 W → (fun W => W.cell? ⟨w.heap.size, 0, none⟩ = some (.string ⟨mf.toArray⟩) ∧ W.cell? ⟨w.heap.size, 1, none⟩ = some (.string ⟨mt.toArray⟩) ∧ W.cell? ⟨w.heap.size, 2, none⟩ = some (.float .f64 ms) ∧ W.cell? ⟨w.heap.size + 1, 0, none⟩ = some (.string ⟨nf.toArray⟩) ∧ W.cell? ⟨w.heap.size + 1, 1, none⟩ = some (.string ⟨nt.toArray⟩) ∧ W.cell? ⟨w.heap.size + 1, 2, none⟩ = some (.float .f64 ns)) W) := Lib.hid (by
    have k1 : w2.heap[w.heap.size]? = some (.cells (mvL ⟨mf, mt, ms⟩).toArray 43 (0, 0)) := by rw [hw2]; exact (Below.heap_alloc _ _ _ (by simp)).trans (new_five w _ _)
    have k2 : w2.heap[w.heap.size + 1]? = some (.cells (mvL ⟨nf, nt, ns⟩).toArray 43 (0, 0)) := by
      rw [hw2]
      have h := new_five (w.alloc (.cells (mvL ⟨mf, mt, ms⟩).toArray 43)) (mvL ⟨nf, nt, ns⟩).toArray 43
      rw [World.size_alloc] at h
      exact h
    have k3 : w2.heap.size = w.heap.size + 1 + 1 := by rw [hw2]; simp
    intro W hW
    have a1 := box3 k1 (hW.block _ (by omega))
    have a2 := box3 k2 (hW.block _ (by omega))
    exact ⟨a1.1, a1.2.1, a1.2.2, a2.1, a2.2.1, a2.2.2⟩)
  unfold mvL at hw2 ⊢
  go_enter Try.func28, Try.ntmps28
  go_wp2_with fail
  rw [← hw2]
  clear hw2
  refine wp_region_D 17 (fun W => Below w2.heap.size w2 W) (by kernel_rfl) (by kernel_rfl) (by kernel_rfl) ?_
  have hSd : Below w2.heap.size w2 w2.drew := below_dr w2
  refine wpAnyD_take (i := 0) (oi := ⟨_, _, _, _, _, _⟩) (v := ?_) rfl (by kernel_rfl) (by kernel_rfl) (by kernel_rfl) (by kernel_rfl) (fun _ _ _ h => h) (fun _ _ h => h.trans (below_drewN _ _ _)) (Or.inl (Or.inl ⟨by rfl, ?_⟩)) hSd ?_
  rotate_left
  · intro W hSw; (try dsimp only at hSw); obtain ⟨s0, s1, s2, s3, s4, s5⟩ := HSC.out W hSw; first | (go_simp; done) | (go_simp; with_reducible rfl)
  try simp only [Act.put, List.setIfInBounds_toArray, List.set_cons_zero, List.set_cons_succ]
  refine wpAnyD_take (i := 1) (oi := ⟨_, _, _, _, _, _⟩) (v := ?_) rfl (by kernel_rfl) (by kernel_rfl) (by kernel_rfl) (by kernel_rfl) (fun _ _ _ h => h) (fun _ _ h => h.trans (below_drewN _ _ _)) (Or.inl (Or.inl ⟨by rfl, ?_⟩)) hSd ?_
  rotate_left
  · intro W hSw; (try dsimp only at hSw); obtain ⟨s0, s1, s2, s3, s4, s5⟩ := HSC.out W hSw; first | (go_simp; done) | (go_simp; with_reducible rfl)
  try simp only [Act.put, List.setIfInBounds_toArray, List.set_cons_zero, List.set_cons_succ]
  refine wpAnyD_take (i := 2) (oi := ⟨_, _, _, _, _, _⟩) (v := ?_) rfl (by kernel_rfl) (by kernel_rfl) (by kernel_rfl) (by kernel_rfl) (fun _ _ _ h => h) (fun _ _ h => h.trans (below_drewN _ _ _)) (Or.inl (Or.inl ⟨by rfl, ?_⟩)) hSd ?_
  rotate_left
  · intro W hSw; (try dsimp only at hSw); obtain ⟨s0, s1, s2, s3, s4, s5⟩ := HSC.out W hSw; first | (go_simp; done) | (go_simp; with_reducible rfl)
  try simp only [Act.put, List.setIfInBounds_toArray, List.set_cons_zero, List.set_cons_succ]
  refine wpAnyD_take (i := 3) (oi := ⟨_, _, _, _, _, _⟩) (v := ?_) rfl (by kernel_rfl) (by kernel_rfl) (by kernel_rfl) (by kernel_rfl) (fun _ _ _ h => h) (fun _ _ h => h.trans (below_drewN _ _ _)) (Or.inl (Or.inl ⟨by rfl, ?_⟩)) hSd ?_
  rotate_left
  · intro W hSw; (try dsimp only at hSw); obtain ⟨s0, s1, s2, s3, s4, s5⟩ := HSC.out W hSw; first | (go_simp; done) | (go_simp; with_reducible rfl)
  try simp only [Act.put, List.setIfInBounds_toArray, List.set_cons_zero, List.set_cons_succ]
  refine wpAnyD_take (i := 4) (oi := ⟨_, _, _, _, _, _⟩) (v := .int .i64 X) rfl (by kernel_rfl) (by kernel_rfl) (by kernel_rfl) (by kernel_rfl) (fun _ _ _ h => h) (fun _ _ h => h.trans (below_drewN _ _ _)) (Or.inr ⟨by rfl, fun W hW => ⟨34, #[.float .f64 ns, .float .f64 ms], ?_, (HX.out W).mono (fun _ _ h => ⟨h.1, 0, h.2.symm⟩)⟩⟩) hSd ?_
  · first | (go_simp; done) | (go_simp; with_reducible rfl)
  try simp only [Act.put, List.setIfInBounds_toArray, List.set_cons_zero, List.set_cons_succ]
  refine wpAnyD_take (i := 5) (oi := ⟨_, _, _, _, _, _⟩) (v := ?_) rfl (by kernel_rfl) (by kernel_rfl) (by kernel_rfl) (by kernel_rfl) (fun _ _ _ h => h) (fun _ _ h => h.trans (below_drewN _ _ _)) (Or.inl (Or.inl ⟨by rfl, ?_⟩)) hSd ?_
  rotate_left
  · intro W hSw; (try dsimp only at hSw); obtain ⟨s0, s1, s2, s3, s4, s5⟩ := HSC.out W hSw; first | (go_simp; done) | (go_simp; with_reducible rfl)
  try simp only [Act.put, List.setIfInBounds_toArray, List.set_cons_zero, List.set_cons_succ]
  refine wpAnyD_take (i := 6) (oi := ⟨_, _, _, _, _, _⟩) (v := ?_) rfl (by kernel_rfl) (by kernel_rfl) (by kernel_rfl) (by kernel_rfl) (fun _ _ _ h => h) (fun _ _ h => h.trans (below_drewN _ _ _)) (Or.inl (Or.inl ⟨by rfl, ?_⟩)) hSd ?_
  rotate_left
  · intro W hSw; (try dsimp only at hSw); obtain ⟨s0, s1, s2, s3, s4, s5⟩ := HSC.out W hSw; first | (go_simp; done) | (go_simp; with_reducible rfl)
  try simp only [Act.put, List.setIfInBounds_toArray, List.set_cons_zero, List.set_cons_succ]
  refine wpAnyD_take (i := 7) (oi := ⟨_, _, _, _, _, _⟩) (v := ?_) rfl (by kernel_rfl) (by kernel_rfl) (by kernel_rfl) (by kernel_rfl) (fun _ _ _ h => h) (fun _ _ h => h.trans (below_drewN _ _ _)) (Or.inl (Or.inl ⟨by rfl, ?_⟩)) hSd ?_
  rotate_left
  · intro W hSw; (try dsimp only at hSw); obtain ⟨s0, s1, s2, s3, s4, s5⟩ := HSC.out W hSw; first | (go_simp; done) | (go_simp; with_reducible rfl)
  try simp only [Act.put, List.setIfInBounds_toArray, List.set_cons_zero, List.set_cons_succ]
  refine wpAnyD_take (i := 8) (oi := ⟨_, _, _, _, _, _⟩) (v := ?_) rfl (by kernel_rfl) (by kernel_rfl) (by kernel_rfl) (by kernel_rfl) (fun _ _ _ h => h) (fun _ _ h => h.trans (below_drewN _ _ _)) (Or.inl (Or.inl ⟨by rfl, ?_⟩)) hSd ?_
  rotate_left
  · intro W hSw; (try dsimp only at hSw); obtain ⟨s0, s1, s2, s3, s4, s5⟩ := HSC.out W hSw; first | (go_simp; done) | (go_simp; with_reducible rfl)
  try simp only [Act.put, List.setIfInBounds_toArray, List.set_cons_zero, List.set_cons_succ]
  refine wpAnyD_take (i := 9) (oi := ⟨_, _, _, _, _, _⟩) (v := .int .i64 Y) rfl (by kernel_rfl) (by kernel_rfl) (by kernel_rfl) (by kernel_rfl) (fun _ _ _ h => h) (fun _ _ h => h.trans (below_drewN _ _ _)) (Or.inr ⟨by rfl, fun W hW => ⟨43, #[.string ⟨mf.toArray⟩, .string ⟨nf.toArray⟩], ?_, HY.out W⟩⟩) hSd ?_
  · first | (go_simp; done) | (go_simp; with_reducible rfl)
  try simp only [Act.put, List.setIfInBounds_toArray, List.set_cons_zero, List.set_cons_succ]
  refine wpAnyD_take (i := 10) (oi := ⟨_, _, _, _, _, _⟩) (v := ?_) rfl (by kernel_rfl) (by kernel_rfl) (by kernel_rfl) (by kernel_rfl) (fun _ _ _ h => h) (fun _ _ h => h.trans (below_drewN _ _ _)) (Or.inl (Or.inl ⟨by rfl, ?_⟩)) hSd ?_
  rotate_left
  · intro W hSw; (try dsimp only at hSw); obtain ⟨s0, s1, s2, s3, s4, s5⟩ := HSC.out W hSw; first | (go_simp; done) | (go_simp; with_reducible rfl)
  try simp only [Act.put, List.setIfInBounds_toArray, List.set_cons_zero, List.set_cons_succ]
  refine wpAnyD_take (i := 11) (oi := ⟨_, _, _, _, _, _⟩) (v := ?_) rfl (by kernel_rfl) (by kernel_rfl) (by kernel_rfl) (by kernel_rfl) (fun _ _ _ h => h) (fun _ _ h => h.trans (below_drewN _ _ _)) (Or.inl (Or.inl ⟨by rfl, ?_⟩)) hSd ?_
  rotate_left
  · intro W hSw; (try dsimp only at hSw); obtain ⟨s0, s1, s2, s3, s4, s5⟩ := HSC.out W hSw; first | (go_simp; done) | (go_simp; with_reducible rfl)
  try simp only [Act.put, List.setIfInBounds_toArray, List.set_cons_zero, List.set_cons_succ]
  refine wpAnyD_take (i := 12) (oi := ⟨_, _, _, _, _, _⟩) (v := ?_) rfl (by kernel_rfl) (by kernel_rfl) (by kernel_rfl) (by kernel_rfl) (fun _ _ _ h => h) (fun _ _ h => h.trans (below_drewN _ _ _)) (Or.inl (Or.inl ⟨by rfl, ?_⟩)) hSd ?_
  rotate_left
  · intro W hSw; (try dsimp only at hSw); obtain ⟨s0, s1, s2, s3, s4, s5⟩ := HSC.out W hSw; first | (go_simp; done) | (go_simp; with_reducible rfl)
  try simp only [Act.put, List.setIfInBounds_toArray, List.set_cons_zero, List.set_cons_succ]
  refine wpAnyD_take (i := 13) (oi := ⟨_, _, _, _, _, _⟩) (v := ?_) rfl (by kernel_rfl) (by kernel_rfl) (by kernel_rfl) (by kernel_rfl) (fun _ _ _ h => h) (fun _ _ h => h.trans (below_drewN _ _ _)) (Or.inl (Or.inl ⟨by rfl, ?_⟩)) hSd ?_
  rotate_left
  · intro W hSw; (try dsimp only at hSw); obtain ⟨s0, s1, s2, s3, s4, s5⟩ := HSC.out W hSw; first | (go_simp; done) | (go_simp; with_reducible rfl)
  try simp only [Act.put, List.setIfInBounds_toArray, List.set_cons_zero, List.set_cons_succ]
  refine wpAnyD_take (i := 14) (oi := ⟨_, _, _, _, _, _⟩) (v := .int .i64 Z) rfl (by kernel_rfl) (by kernel_rfl) (by kernel_rfl) (by kernel_rfl) (fun _ _ _ h => h) (fun _ _ h => h.trans (below_drewN _ _ _)) (Or.inr ⟨by rfl, fun W hW => ⟨43, #[.string ⟨mt.toArray⟩, .string ⟨nt.toArray⟩], ?_, HZ.out W⟩⟩) hSd ?_
  · first | (go_simp; done) | (go_simp; with_reducible rfl)
  try simp only [Act.put, List.setIfInBounds_toArray, List.set_cons_zero, List.set_cons_succ]
  clear hSd
  refine wpAnyD_one (i := 15) (o := ⟨_, _, _, _, _, _⟩) (by kernel_rfl) (by decide) rfl (fun nq K hK0 => ?_)
  have hK := Lib.hid hK0
  clear hK0
  go_simp
  have HB15 : Hid (Below w2.heap.size w2 ((w2.drewN (1 + nq)).alloc (.cells #[.int .i64 X, .int .i64 Y, .int .i64 Z] 3))) := Lib.hid ((below_drewN w2.heap.size w2 (1 + nq)).alloc (by first | exact Nat.le_refl _ | simp) _)
  have HC15 := Lib.hid (box3 (new_five (w2.drewN (1 + nq)) #[.int .i64 X, .int .i64 Y, .int .i64 Z] 3) rfl)
  refine hK.out _ _ (HB15.out) ?_
  clear hK K
  try simp only [Act.put, List.setIfInBounds_toArray, List.set_cons_zero, List.set_cons_succ]
  refine wpAnyD_one (i := 16) (o := ⟨_, _, _, _, _, _⟩) (by kernel_rfl) (by decide) rfl (fun nq K hK0 => ?_)
  have hK := Lib.hid hK0
  clear hK0
  go_simp
  refine (or_any _ [X, Y, Z] _ rfl (fun k hk => ?_)).mono ?_
  · have h3 : k = 0 ∨ k = 1 ∨ k = 2 := by omega
    rcases h3 with rfl | rfl | rfl
    · exact HC15.out.1
    · exact HC15.out.2.1
    · exact HC15.out.2.2
  rintro e w6 ⟨rfl, rfl⟩
  refine hK.out _ _ (HB15.out.trans (below_drewN _ _ _)) ?_
  clear hK K
  try simp only [Act.put, List.setIfInBounds_toArray, List.set_cons_zero, List.set_cons_succ]
  refine wpAnyD_last (by kernel_rfl) (fun nd => ?_)
  refine wpOp_one rfl (by rfl) ?_
  go_simp
  go_wp2
  go_ret
  exact ⟨by rw [HO.out]; rfl, I4.out.trans ((HB15.out.trans (below_drewN _ _ _)).mono I4.out.size)⟩
end Go.Proofs.Ytaajfekolokaoaa
