/- The walk of common: the table of two lists of numbers. -/
import Derived.Test.YtfiogjdjcocbnaaLinG
namespace Go.Proofs.Ytfiogjdjcocbnaa
open Go.RowKit

/-- What common leaves. -/
def CommonP (w : World) (a b : List Nat) (n : Nat) (e : Ending) (w' : World) : Prop := ∃ tb cb f, e = .returned (.pointer (some ⟨tb, 0, none⟩)) ∧ Tab w' tb cb ((b.length : Int) + 1) n f ∧ TabTo a b f (-1) (-1) ∧ Below w.heap.size w w'
set_option maxRecDepth 100000 in
set_option maxHeartbeats 8000000 in
theorem common_any (S T : Nat → Prop) (va vb : Value) (a b : List Nat) (n : Nat) (w : World) (hS : ∀ k, S k → k < w.heap.size) (hT : ∀ k, T k → k < w.heap.size) (ha : IntsC S w va a) (hb : IntsC T w vb b) (hal : a.length ≤ 4194304) (hbl : b.length ≤ 4194304)
    (hn : (a.length + 1) * (b.length + 1) = n) (hnb : n ≤ 8388608) :
    Calls Try.prog 58 #[va, vb] w (CommonP w a b n) := by
  obtain ⟨i0, hi, hz0, hz1, hz2⟩ := info_parts Try.info3i
  obtain ⟨aa, ac, rfl⟩ := ha.shape
  obtain ⟨ba, bc, rfl⟩ := hb.shape
  have HS := Lib.hid hS
  have HT := Lib.hid hT
  have HA := Lib.hid ha
  have HB := Lib.hid hb
  have hmul : ((a.length : Int) + 1) * ((b.length : Int) + 1) = (n : Int) := by rw [← hn]; push_cast; rfl
  clear hS hT ha hb
  have HN := Lib.hid hn
  clear hn
  go_enter Try.func58, Try.ntmps58
  go_wp2_with (at_make; refine wpList_make_full _ rfl _ _ 85 rfl w.heap.size 3 i0 (.int .i64 0) 1 Try.underlying85 hi hz0 hz1 .i64 .i64 _ _ n rfl rfl (by omega) (by omega) (by rw [hz2]; omega) (by unfold maxLen; omega) (by simp) ?_; intro w1 hown hgrow)
  have hlt1 : w.heap.size < w1.heap.size := (hown.lt _ rfl).2
  have HT0 := Lib.hid (Tab.made (wide := (b.length : Int) + 1) hown hlt1)
  have HB0 : Hid (Below w.heap.size w (w1.alloc (.cells #[.int .i64 ((b.length : Int) + 1), .slice (some ⟨w.heap.size, 0, none⟩) n n] 117))) := Lib.hid (((Below.refl w.heap.size w).grown hgrow (Nat.le_refl _) (fun j hj => by cases hj)).alloc (by omega) _)
  clear hown hgrow hmul
  generalize w1.alloc (.cells #[.int .i64 ((b.length : Int) + 1), .slice (some ⟨w.heap.size, 0, none⟩) n n] 117) = w2 at *
  generalize w1.heap.size = tb at *
  obtain ⟨cb, hcb⟩ : ∃ cb, w.heap.size = cb := ⟨_, rfl⟩
  have HCB := Lib.hid hcb
  rw [hcb] at HT0
  rw [hcb]
  clear hcb hlt1
  go_loopw [7] (fun i wr => ∃ (x : Int) (f : Nat → Nat), -1 ≤ x ∧ x < a.length ∧ i = .int .i64 x ∧ Hid (Tab wr tb cb ((b.length : Int) + 1) n f) ∧ Hid (TabTo a b f x ((b.length : Int) - 1)) ∧ Hid (Below w.heap.size w wr)) (fun i _ => (intOf i + 1).toNat)
  case atStart => exact ⟨(a.length : Int) - 1, _, by omega, by omega, rfl, HT0, Lib.hid (TabTo.start (fun _ => rfl)), HB0⟩
  case round =>
    obtain ⟨x, f, hx1, hx2, rfl, hT, hTo, hW⟩ := hrel
    by_cases hx0 : 0 ≤ x
    · obtain ⟨m, rfl⟩ : ∃ m : Nat, x = m := ⟨x.toNat, by omega⟩
      obtain ⟨wo, rfl⟩ : ∃ wo : World, wo = wr := ⟨_, rfl⟩
      go_wp2_with fail
      go_loopw [8] (fun j wr => ∃ (y : Int) (f : Nat → Nat), -1 ≤ y ∧ y < b.length ∧ j = .int .i64 y ∧ Hid (Tab wr tb cb ((b.length : Int) + 1) n f) ∧ Hid (TabTo a b f m y) ∧ Hid (Below w.heap.size w wr)) (fun j _ => (intOf j + 1).toNat)
      case atStart => exact ⟨(b.length : Int) - 1, f, by omega, by omega, rfl, hT, hTo, hW⟩
      case round =>
        obtain ⟨y, f2, hy1, hy2, rfl, hT2, hTo2, hW2⟩ := hrel
        clear hT hTo hW
        by_cases hy0 : 0 ≤ y
        · obtain ⟨q, rfl⟩ : ∃ q : Nat, y = q := ⟨y.toNat, by omega⟩
          have hma : m < a.length := by omega
          have hqb : q < b.length := by omega
          obtain ⟨ga, oa, rfl, hSa, _, _, hca⟩ := HA.out.at (by omega)
          obtain ⟨gb, ob, rfl, hSb, _, _, hcb⟩ := HB.out.at (by omega)
          have c1 := (hW2.out.cell (p := ⟨ga, oa + m, none⟩) (HS.out _ hSa)).trans (hca m hma)
          have c2 := (hW2.out.cell (p := ⟨gb, ob + q, none⟩) (HT.out _ hSb)).trans (hcb q hqb)
          have HL := Lib.hid (lcs_at hma hqb)
          have HT2s := Lib.hid (hTo2.out.step hma hqb)
          have HP1 := Lib.hid (hTo2.out (m + 1) (q + 1) (by omega) (by omega) (Or.inl (by omega)))
          have HP2 := Lib.hid (hTo2.out (m + 1) q (by omega) (by omega) (Or.inl (by omega)))
          have HP3 := Lib.hid (hTo2.out m (q + 1) (by omega) (by omega) (Or.inr (Or.inl ⟨rfl, by omega⟩)))
          have hl11 := lcs_drop_le a b (m + 1) (q + 1)
          have hl12 := lcs_drop_le a b (m + 1) q
          have hl21 := lcs_drop_le a b m (q + 1)
          have l0 : m * (b.length + 1) + q < n := by have := place_lt (la := a.length) (lb := b.length) (p := m) (q := q) (by omega) (by omega); have := HN.out; omega
          have l11 : (m + 1) * (b.length + 1) + (q + 1) < n := by have := place_lt (la := a.length) (lb := b.length) (p := m + 1) (q := q + 1) (by omega) (by omega); have := HN.out; omega
          have l1 : (m + 1) * (b.length + 1) + q < n := by have := place_lt (la := a.length) (lb := b.length) (p := m + 1) (q := q) (by omega) (by omega); have := HN.out; omega
          have l2 : m * (b.length + 1) + (q + 1) < n := by have := place_lt (la := a.length) (lb := b.length) (p := m) (q := q + 1) (by omega) (by omega); have := HN.out; omega
          have E0 : Hid ((m : Int) * ((b.length : Int) + 1) + (q : Int) = ((m * (b.length + 1) + q : Nat) : Int)) := Lib.hid (by push_cast; rfl)
          have E11 : Hid (((m : Int) + 1) * ((b.length : Int) + 1) + ((q : Int) + 1) = (((m + 1) * (b.length + 1) + (q + 1) : Nat) : Int)) := Lib.hid (by push_cast; rfl)
          have E1 : Hid (((m : Int) + 1) * ((b.length : Int) + 1) + (q : Int) = (((m + 1) * (b.length + 1) + q : Nat) : Int)) := Lib.hid (by push_cast; rfl)
          have E2 : Hid ((m : Int) * ((b.length : Int) + 1) + ((q : Int) + 1) = ((m * (b.length + 1) + (q + 1) : Nat) : Int)) := Lib.hid (by push_cast; rfl)
          have L0 := Lib.hid l0
          have L11 := Lib.hid l11
          have L1 := Lib.hid l1
          have L2 := Lib.hid l2
          clear l0 l11 l1 l2 hca hcb
          generalize m * (b.length + 1) + q = k0 at *
          generalize (m + 1) * (b.length + 1) + (q + 1) = k11 at *
          generalize (m + 1) * (b.length + 1) + q = k1 at *
          generalize m * (b.length + 1) + (q + 1) = k2 at *
          generalize lcs (a.drop (m + 1)) (b.drop (q + 1)) = x11 at *
          generalize lcs (a.drop (m + 1)) (b.drop q) = x1 at *
          generalize lcs (a.drop m) (b.drop (q + 1)) = x2 at *
          generalize lcs (a.drop m) (b.drop q) = x0 at *
          by_cases he : a.getD m 0 = b.getD q 0
          · have HX0 : Hid (x0 = x11 + 1) := Lib.hid (HL.out.trans (if_pos he))
            have ge : ((a.getD m 0 : Int) == (b.getD q 0 : Int)) = true := by rw [he]; simp
            generalize a.getD m 0 = ua at *
            generalize b.getD q 0 = ub at *
            clear he HL
            go_wp2_with fail
            go_quiet (fail)
            have T3 : Hid (Tab (wr.drewN nq) tb cb ((b.length : Int) + 1) n f2) := Lib.hid (hT2.out.drewN nq)
            have W3 := Lib.hid (hW2.out.trans (drewn w.heap.size wr nq))
            clear c1 c2 hT2 hW2
            generalize wr.drewN nq = wq at *
            have t0 := T3.out.c0
            have t1 := T3.out.c1
            have d11 := T3.out.cs k11 L11.out
            have d0 := T3.out.cs k0 L0.out
            have fr0 := T3.out.fr k0
            rw [HP1.out] at d11
            go_wp2_with fail
            refine (cell_any tb cb n _ _ _ k0 _ t0 t1 (by omega) (by omega) (by omega) E0.out L0.out hnb).mono ?_
            rintro e w4 ⟨rfl, n4, rfl⟩
            go_wp2_with fail
            refine (cell_any tb cb n _ _ _ k11 (wq.drewN n4) t0 t1 (by omega) (by omega) (by omega) E11.out L11.out hnb).mono ?_
            rintro e w5 ⟨rfl, n5, rfl⟩
            go_wp2_with fail
            have T6 := Lib.hid ((T3.out.drewN (n4 + n5)).set L0.out x0 (show (x11 : Int) + 1 = (x0 : Nat) by rw [HX0.out]; push_cast; rfl))
            have W6 : Hid (Below w.heap.size w (((wq.drewN (n4 + n5)).setCell ⟨cb, k0, none⟩ (.int .i64 ((x11 : Int) + 1))))) := Lib.hid ((W3.out.trans (drewn w.heap.size wq (n4 + n5))).setCell (by have := HCB.out; show w.heap.size ≤ cb; omega) _)
            go_roundw
            case rel => exact ⟨(q : Int) - 1, _, by omega, by omega, rfl, T6, HT2s, W6⟩
            case measure => simp [intOf]
          · have HX0 : Hid (x0 = max x1 x2) := Lib.hid (HL.out.trans (if_neg he))
            have ge : ((a.getD m 0 : Int) == (b.getD q 0 : Int)) = false := by rw [beq_eq_false_iff_ne]; omega
            generalize a.getD m 0 = ua at *
            generalize b.getD q 0 = ub at *
            clear he HL
            go_wp2_with fail
            go_quiet (fail)
            have T3 : Hid (Tab (wr.drewN nq) tb cb ((b.length : Int) + 1) n f2) := Lib.hid (hT2.out.drewN nq)
            have W3 := Lib.hid (hW2.out.trans (drewn w.heap.size wr nq))
            clear c1 c2 hT2 hW2
            generalize wr.drewN nq = wq at *
            have t0 := T3.out.c0
            have t1 := T3.out.c1
            have d1 := T3.out.cs k1 L1.out
            have d2 := T3.out.cs k2 L2.out
            have d0 := T3.out.cs k0 L0.out
            have fr0 := T3.out.fr k0
            rw [HP2.out] at d1
            rw [HP3.out] at d2
            have hw1 : IntKind.i64.wrap ((m : Int) + 1) = (m : Int) + 1 := IntWalk.i64_in _ (by omega)
            have hw2 : IntKind.i64.wrap ((q : Int) + 1) = (q : Int) + 1 := IntWalk.i64_in _ (by omega)
            go_wp2_with fail
            refine wp_region_D 20 (fun W => W.cell? ⟨tb, 0, none⟩ = some (.int .i64 ((b.length : Int) + 1)) ∧ W.cell? ⟨tb, 1, none⟩ = some (.slice (some ⟨cb, 0, none⟩) n n) ∧ W.cell? ⟨cb, k1, none⟩ = some (.int .i64 (x1 : Nat)) ∧ W.cell? ⟨cb, k2, none⟩ = some (.int .i64 (x2 : Nat))) (by kernel_rfl) (by kernel_rfl) (by kernel_rfl) ?_
            have hSd := (show wq.drew.cell? ⟨tb, 0, none⟩ = some (.int .i64 ((b.length : Int) + 1)) ∧ wq.drew.cell? ⟨tb, 1, none⟩ = some (.slice (some ⟨cb, 0, none⟩) n n) ∧ wq.drew.cell? ⟨cb, k1, none⟩ = some (.int .i64 (x1 : Nat)) ∧ wq.drew.cell? ⟨cb, k2, none⟩ = some (.int .i64 (x2 : Nat)) from ⟨t0, t1, d1, d2⟩)
            refine wpAnyD_take (i := 0) (oi := ⟨_, _, _, _, _, _⟩) (v := ?_) rfl (by kernel_rfl) (by kernel_rfl) (by kernel_rfl) (by kernel_rfl) (fun _ _ _ h => h) (fun _ _ h => h) (Or.inl (Or.inl ⟨by rfl, ?_⟩)) hSd ?_
            rotate_left
            · intro W hSw; (try dsimp only at hSw); first | (go_simp; done) | (go_simp; with_reducible rfl)
            try simp only [Act.put, List.setIfInBounds_toArray, List.set_cons_zero, List.set_cons_succ]
            refine wpAnyD_take (i := 1) (oi := ⟨_, _, _, _, _, _⟩) (v := ?_) rfl (by kernel_rfl) (by kernel_rfl) (by kernel_rfl) (by kernel_rfl) (fun _ _ _ h => h) (fun _ _ h => h) (Or.inl (Or.inl ⟨by rfl, ?_⟩)) hSd ?_
            rotate_left
            · intro W hSw; (try dsimp only at hSw); first | (go_simp; done) | (go_simp; with_reducible rfl)
            try simp only [Act.put, List.setIfInBounds_toArray, List.set_cons_zero, List.set_cons_succ]
            refine wpAnyD_take (i := 2) (oi := ⟨_, _, _, _, _, _⟩) (v := ?_) rfl (by kernel_rfl) (by kernel_rfl) (by kernel_rfl) (by kernel_rfl) (fun _ _ _ h => h) (fun _ _ h => h) (Or.inl (Or.inl ⟨by rfl, ?_⟩)) hSd ?_
            rotate_left
            · intro W hSw; (try dsimp only at hSw); first | (go_simp; done) | (go_simp; with_reducible rfl)
            try simp only [Act.put, List.setIfInBounds_toArray, List.set_cons_zero, List.set_cons_succ]
            refine wpAnyD_take (i := 3) (oi := ⟨_, _, _, _, _, _⟩) (v := .pointer (some ⟨cb, k0, none⟩)) rfl (by kernel_rfl) (by kernel_rfl) (by kernel_rfl) (by kernel_rfl) (fun _ _ _ h => h) (fun _ _ h => h) (Or.inr ⟨by rfl, fun W hW => ⟨59, #[.pointer (some ⟨tb, 0, none⟩), .int .i64 ((m : Int)), .int .i64 ((q : Int))], ?_, cell_any tb cb n _ _ _ k0 W hW.1 hW.2.1 (by omega) (by omega) (by omega) E0.out L0.out hnb⟩⟩) hSd ?_
            · first | (go_simp; done) | (go_simp; with_reducible rfl)
            try simp only [Act.put, List.setIfInBounds_toArray, List.set_cons_zero, List.set_cons_succ]
            refine wpAnyD_take (i := 4) (oi := ⟨_, _, _, _, _, _⟩) (v := ?_) rfl (by kernel_rfl) (by kernel_rfl) (by kernel_rfl) (by kernel_rfl) (fun _ _ _ h => h) (fun _ _ h => h) (Or.inl (Or.inl ⟨by rfl, ?_⟩)) hSd ?_
            rotate_left
            · intro W hSw; (try dsimp only at hSw); first | (go_simp; done) | (go_simp; with_reducible rfl)
            try simp only [Act.put, List.setIfInBounds_toArray, List.set_cons_zero, List.set_cons_succ]
            refine wpAnyD_take (i := 5) (oi := ⟨_, _, _, _, _, _⟩) (v := ?_) rfl (by kernel_rfl) (by kernel_rfl) (by kernel_rfl) (by kernel_rfl) (fun _ _ _ h => h) (fun _ _ h => h) (Or.inl (Or.inl ⟨by rfl, ?_⟩)) hSd ?_
            rotate_left
            · intro W hSw; (try dsimp only at hSw); first | (go_simp; done) | (go_simp; with_reducible rfl)
            try simp only [Act.put, List.setIfInBounds_toArray, List.set_cons_zero, List.set_cons_succ]
            refine wpAnyD_take (i := 6) (oi := ⟨_, _, _, _, _, _⟩) (v := ?_) rfl (by kernel_rfl) (by kernel_rfl) (by kernel_rfl) (by kernel_rfl) (fun _ _ _ h => h) (fun _ _ h => h) (Or.inl (Or.inl ⟨by rfl, ?_⟩)) hSd ?_
            rotate_left
            · intro W hSw; (try dsimp only at hSw); first | (go_simp; done) | (go_simp; with_reducible rfl)
            try simp only [Act.put, List.setIfInBounds_toArray, List.set_cons_zero, List.set_cons_succ]
            refine wpAnyD_take (i := 7) (oi := ⟨_, _, _, _, _, _⟩) (v := ?_) rfl (by kernel_rfl) (by kernel_rfl) (by kernel_rfl) (by kernel_rfl) (fun _ _ _ h => h) (fun _ _ h => h) (Or.inl (Or.inl ⟨by rfl, ?_⟩)) hSd ?_
            rotate_left
            · intro W hSw; (try dsimp only at hSw); first | (go_simp; done) | (go_simp; with_reducible rfl)
            try simp only [Act.put, List.setIfInBounds_toArray, List.set_cons_zero, List.set_cons_succ]
            refine wpAnyD_take (i := 8) (oi := ⟨_, _, _, _, _, _⟩) (v := .pointer (some ⟨cb, k1, none⟩)) rfl (by kernel_rfl) (by kernel_rfl) (by kernel_rfl) (by kernel_rfl) (fun _ _ _ h => h) (fun _ _ h => h) (Or.inr ⟨by rfl, fun W hW => ⟨59, #[.pointer (some ⟨tb, 0, none⟩), .int .i64 ((m : Int) + 1), .int .i64 ((q : Int))], ?_, cell_any tb cb n _ _ _ k1 W hW.1 hW.2.1 (by omega) (by omega) (by omega) E1.out L1.out hnb⟩⟩) hSd ?_
            · first | (go_simp; done) | (go_simp; with_reducible rfl)
            try simp only [Act.put, List.setIfInBounds_toArray, List.set_cons_zero, List.set_cons_succ]
            refine wpAnyD_take (i := 9) (oi := ⟨_, _, _, _, _, _⟩) (v := ?_) rfl (by kernel_rfl) (by kernel_rfl) (by kernel_rfl) (by kernel_rfl) (fun _ _ _ h => h) (fun _ _ h => h) (Or.inl (Or.inl ⟨by rfl, ?_⟩)) hSd ?_
            rotate_left
            · intro W hSw; (try dsimp only at hSw); first | (go_simp; done) | (go_simp; with_reducible rfl)
            try simp only [Act.put, List.setIfInBounds_toArray, List.set_cons_zero, List.set_cons_succ]
            refine wpAnyD_take (i := 10) (oi := ⟨_, _, _, _, _, _⟩) (v := ?_) rfl (by kernel_rfl) (by kernel_rfl) (by kernel_rfl) (by kernel_rfl) (fun _ _ _ h => h) (fun _ _ h => h) (Or.inl (Or.inl ⟨by rfl, ?_⟩)) hSd ?_
            rotate_left
            · intro W hSw; (try dsimp only at hSw); first | (go_simp; done) | (go_simp; with_reducible rfl)
            try simp only [Act.put, List.setIfInBounds_toArray, List.set_cons_zero, List.set_cons_succ]
            refine wpAnyD_take (i := 11) (oi := ⟨_, _, _, _, _, _⟩) (v := ?_) rfl (by kernel_rfl) (by kernel_rfl) (by kernel_rfl) (by kernel_rfl) (fun _ _ _ h => h) (fun _ _ h => h) (Or.inl (Or.inl ⟨by rfl, ?_⟩)) hSd ?_
            rotate_left
            · intro W hSw; (try dsimp only at hSw); first | (go_simp; done) | (go_simp; with_reducible rfl)
            try simp only [Act.put, List.setIfInBounds_toArray, List.set_cons_zero, List.set_cons_succ]
            refine wpAnyD_take (i := 12) (oi := ⟨_, _, _, _, _, _⟩) (v := ?_) rfl (by kernel_rfl) (by kernel_rfl) (by kernel_rfl) (by kernel_rfl) (fun _ _ _ h => h) (fun _ _ h => h) (Or.inl (Or.inl ⟨by rfl, ?_⟩)) hSd ?_
            rotate_left
            · intro W hSw; (try dsimp only at hSw); first | (go_simp; done) | (go_simp; with_reducible rfl)
            try simp only [Act.put, List.setIfInBounds_toArray, List.set_cons_zero, List.set_cons_succ]
            refine wpAnyD_take (i := 13) (oi := ⟨_, _, _, _, _, _⟩) (v := ?_) rfl (by kernel_rfl) (by kernel_rfl) (by kernel_rfl) (by kernel_rfl) (fun _ _ _ h => h) (fun _ _ h => h) (Or.inl (Or.inl ⟨by rfl, ?_⟩)) hSd ?_
            rotate_left
            · intro W hSw; (try dsimp only at hSw); first | (go_simp; done) | (go_simp; with_reducible rfl)
            try simp only [Act.put, List.setIfInBounds_toArray, List.set_cons_zero, List.set_cons_succ]
            refine wpAnyD_take (i := 14) (oi := ⟨_, _, _, _, _, _⟩) (v := ?_) rfl (by kernel_rfl) (by kernel_rfl) (by kernel_rfl) (by kernel_rfl) (fun _ _ _ h => h) (fun _ _ h => h) (Or.inl (Or.inl ⟨by rfl, ?_⟩)) hSd ?_
            rotate_left
            · intro W hSw; (try dsimp only at hSw); first | (go_simp; done) | (go_simp; with_reducible rfl)
            try simp only [Act.put, List.setIfInBounds_toArray, List.set_cons_zero, List.set_cons_succ]
            refine wpAnyD_take (i := 15) (oi := ⟨_, _, _, _, _, _⟩) (v := .pointer (some ⟨cb, k2, none⟩)) rfl (by kernel_rfl) (by kernel_rfl) (by kernel_rfl) (by kernel_rfl) (fun _ _ _ h => h) (fun _ _ h => h) (Or.inr ⟨by rfl, fun W hW => ⟨59, #[.pointer (some ⟨tb, 0, none⟩), .int .i64 ((m : Int)), .int .i64 ((q : Int) + 1)], ?_, cell_any tb cb n _ _ _ k2 W hW.1 hW.2.1 (by omega) (by omega) (by omega) E2.out L2.out hnb⟩⟩) hSd ?_
            · first | (go_simp; done) | (go_simp; with_reducible rfl)
            try simp only [Act.put, List.setIfInBounds_toArray, List.set_cons_zero, List.set_cons_succ]
            refine wpAnyD_take (i := 16) (oi := ⟨_, _, _, _, _, _⟩) (v := ?_) rfl (by kernel_rfl) (by kernel_rfl) (by kernel_rfl) (by kernel_rfl) (fun _ _ _ h => h) (fun _ _ h => h) (Or.inl (Or.inl ⟨by rfl, ?_⟩)) hSd ?_
            rotate_left
            · intro W hSw; (try dsimp only at hSw); first | (go_simp; done) | (go_simp; with_reducible rfl)
            try simp only [Act.put, List.setIfInBounds_toArray, List.set_cons_zero, List.set_cons_succ]
            refine wpAnyD_take (i := 17) (oi := ⟨_, _, _, _, _, _⟩) (v := ?_) rfl (by kernel_rfl) (by kernel_rfl) (by kernel_rfl) (by kernel_rfl) (fun _ _ _ h => h) (fun _ _ h => h) (Or.inl (Or.inl ⟨by rfl, ?_⟩)) hSd ?_
            rotate_left
            · intro W hSw; (try dsimp only at hSw); first | (go_simp; done) | (go_simp; with_reducible rfl)
            try simp only [Act.put, List.setIfInBounds_toArray, List.set_cons_zero, List.set_cons_succ]
            refine wpAnyD_take (i := 18) (oi := ⟨_, _, _, _, _, _⟩) (v := ?_) rfl (by kernel_rfl) (by kernel_rfl) (by kernel_rfl) (by kernel_rfl) (fun _ _ _ h => h) (fun _ _ h => h) (Or.inl (Or.inl ⟨by rfl, ?_⟩)) hSd ?_
            rotate_left
            · intro W hSw; (try dsimp only at hSw); first | (go_simp; done) | (go_simp; with_reducible rfl)
            try simp only [Act.put, List.setIfInBounds_toArray, List.set_cons_zero, List.set_cons_succ]
            refine wpAnyD_take (i := 19) (oi := ⟨_, _, _, _, _, _⟩) (v := ?_) rfl (by kernel_rfl) (by kernel_rfl) (by kernel_rfl) (by kernel_rfl) (fun _ _ _ h => h) (fun _ _ h => h) (Or.inl (Or.inl ⟨by rfl, ?_⟩)) hSd ?_
            rotate_left
            · intro W hSw; (try dsimp only at hSw); first | (go_simp; done) | (go_simp; with_reducible rfl)
            try simp only [Act.put, List.setIfInBounds_toArray, List.set_cons_zero, List.set_cons_succ]
            refine wpAnyD_last (by kernel_rfl) (fun nd => ?_)
            refine wpOp_one rfl (by rfl) ?_
            have d0' : (wq.drew.drewN nd).cell? ⟨cb, k0, none⟩ = some (.int .i64 (f2 k0 : Nat)) := d0
            have fr0' : (wq.drew.drewN nd).frozen? ⟨cb, k0, none⟩ = false := fr0
            have T5 : Hid (Tab (wq.drew.drewN nd) tb cb ((b.length : Int) + 1) n f2) := Lib.hid ((T3.out.drewN 1).drewN nd)
            have W5 : Hid (Below w.heap.size w (wq.drew.drewN nd)) := Lib.hid ((W3.out.trans (drewn w.heap.size wq 1)).trans (drewn w.heap.size (wq.drewN 1) nd))
            change Oper.wp _ _ _ (wq.drew.drewN nd) _ _
            generalize wq.drew.drewN nd = wd at *
            clear hSd d1 d2 t0 t1 d0 fr0
            go_simp
            go_wp2_with fail
            have T6 := Lib.hid (T5.out.set L0.out x0 (show (if x1 < x2 then (x2 : Int) else (x1 : Int)) = (x0 : Nat) by rw [HX0.out]; split <;> omega))
            have W6 : Hid (Below w.heap.size w (wd.setCell ⟨cb, k0, none⟩ (.int .i64 (if x1 < x2 then (x2 : Int) else (x1 : Int))))) := Lib.hid (W5.out.setCell (by have := HCB.out; show w.heap.size ≤ cb; omega) _)
            go_roundw
            case rel => exact ⟨(q : Int) - 1, _, by omega, by omega, rfl, T6, HT2s, W6⟩
            case measure => simp [intOf]
        · obtain rfl : y = -1 := by omega
          have HD := Lib.hid hTo2.out.down
          go_wp2_with fail
          go_roundw
          case rel => exact ⟨(m : Int) - 1, f2, by omega, by omega, rfl, hT2, HD, hW2⟩
          case measure => simp [intOf]
    · obtain rfl : x = -1 := by omega
      have HD : Hid (TabTo a b f (-1) (-1)) := Lib.hid (fun p q hp hq _ => hTo.out p q hp hq (Or.inl (by omega)))
      go_wp2_with fail
      go_ret
      exact ⟨tb, cb, f, rfl, hT.out, HD.out, hW.out⟩
end Go.Proofs.Ytfiogjdjcocbnaa
