/- Two moves put in order: the walks of insertionSortCmpFunc, stableCmpFunc, SortStableFunc where the second one stands ahead. -/
import Derived.Test.YtaajfekolokaoaaScD
import Derived.BigRegion
namespace Go.Proofs.Ytaajfekolokaoaa
open Go.RowKit

/-- Six cells of two records. -/
structure Two (w : World) (X : Nat) (m n : Mv) : Prop where
  c0 : w.cell? ⟨X, 0, none⟩ = some (.string ⟨m.fr.toArray⟩)
  c1 : w.cell? ⟨X, 1, none⟩ = some (.string ⟨m.ed.toArray⟩)
  c2 : w.cell? ⟨X, 2, none⟩ = some (.float .f64 m.sc)
  c3 : w.cell? ⟨X, 3, none⟩ = some (.string ⟨n.fr.toArray⟩)
  c4 : w.cell? ⟨X, 4, none⟩ = some (.string ⟨n.ed.toArray⟩)
  c5 : w.cell? ⟨X, 5, none⟩ = some (.float .f64 n.sc)
theorem Two.kept {w w' : World} {X : Nat} {m n : Mv} (h : Two w X m n) (hk : w'.heap[X]? = w.heap[X]?) : Two w' X m n := by
  have e : ∀ k, w'.cell? ⟨X, k, none⟩ = w.cell? ⟨X, k, none⟩ := fun k => by unfold World.cell?; simp only [hk]
  exact ⟨(e _).trans h.c0, (e _).trans h.c1, (e _).trans h.c2, (e _).trans h.c3, (e _).trans h.c4, (e _).trans h.c5⟩
theorem cell_ne (X : Nat) (W : World) (k j : Nat) (v : Value) (h : k ≠ j) : (W.setCell ⟨X, k, none⟩ v).cell? ⟨X, j, none⟩ = W.cell? ⟨X, j, none⟩ := World.cell?_setCell_other W _ _ v (fun e => h (congrArg Addr.off e))
def swapW (w : World) (X : Nat) (m n : Mv) : World := (((((w.setCell ⟨X, 3, none⟩ (.string ⟨m.fr.toArray⟩)).setCell ⟨X, 4, none⟩ (.string ⟨m.ed.toArray⟩)).setCell ⟨X, 5, none⟩ (.float .f64 m.sc)).setCell ⟨X, 0, none⟩ (.string ⟨n.fr.toArray⟩)).setCell ⟨X, 1, none⟩ (.string ⟨n.ed.toArray⟩)).setCell ⟨X, 2, none⟩ (.float .f64 n.sc)
theorem swap_two {w : World} {X : Nat} {m n : Mv} (h : Two w X m n) : Two (swapW w X m n) X n m := by
  unfold swapW
  refine ⟨?_, ?_, ?_, ?_, ?_, ?_⟩
  · rw [cell_ne _ _ _ _ _ (by decide), cell_ne _ _ _ _ _ (by decide)]
    exact World.cell?_setCell_same _ _ _ (by rw [cell_ne _ _ _ _ _ (by decide), cell_ne _ _ _ _ _ (by decide), cell_ne _ _ _ _ _ (by decide)]; exact h.c0)
  · rw [cell_ne _ _ _ _ _ (by decide)]
    exact World.cell?_setCell_same _ _ _ (by rw [cell_ne _ _ _ _ _ (by decide), cell_ne _ _ _ _ _ (by decide), cell_ne _ _ _ _ _ (by decide), cell_ne _ _ _ _ _ (by decide)]; exact h.c1)
  · exact World.cell?_setCell_same _ _ _ (by rw [cell_ne _ _ _ _ _ (by decide), cell_ne _ _ _ _ _ (by decide), cell_ne _ _ _ _ _ (by decide), cell_ne _ _ _ _ _ (by decide), cell_ne _ _ _ _ _ (by decide)]; exact h.c2)
  · rw [cell_ne _ _ _ _ _ (by decide), cell_ne _ _ _ _ _ (by decide), cell_ne _ _ _ _ _ (by decide), cell_ne _ _ _ _ _ (by decide), cell_ne _ _ _ _ _ (by decide)]
    exact World.cell?_setCell_same _ _ _ h.c3
  · rw [cell_ne _ _ _ _ _ (by decide), cell_ne _ _ _ _ _ (by decide), cell_ne _ _ _ _ _ (by decide), cell_ne _ _ _ _ _ (by decide)]
    exact World.cell?_setCell_same _ _ _ (by rw [cell_ne _ _ _ _ _ (by decide)]; exact h.c4)
  · rw [cell_ne _ _ _ _ _ (by decide), cell_ne _ _ _ _ _ (by decide), cell_ne _ _ _ _ _ (by decide)]
    exact World.cell?_setCell_same _ _ _ (by rw [cell_ne _ _ _ _ _ (by decide), cell_ne _ _ _ _ _ (by decide)]; exact h.c5)
theorem swap_below (w : World) (X : Nat) (m n : Mv) : Below X w (swapW w X m n) := by
  unfold swapW
  have h0 := Below.refl X w
  exact (((((h0.setCell (Nat.le_refl X) _).setCell (Nat.le_refl X) _).setCell (Nat.le_refl X) _).setCell (Nat.le_refl X) _).setCell (Nat.le_refl X) _).setCell (Nat.le_refl X) _
theorem Two.drew {w : World} {X : Nat} {m n : Mv} (h : Two w X m n) : Two w.drew X m n := h.kept rfl
theorem swap_end {w wa : World} {X : Nat} {m n : Mv} (hX : X < w.heap.size) (h : Two wa X m n) (hb : Below w.heap.size w wa) : Two (swapW wa X m n).drew X n m ∧ Below X w (swapW wa X m n).drew :=
  ⟨(swap_two h).drew, ((hb.mono (Nat.le_of_lt hX)).trans (swap_below wa X m n)).drew⟩
set_option maxRecDepth 100000 in
set_option maxHeartbeats 4000000 in
theorem insert2_any (X cap : Nat) (m n : Mv) (w : World) (hX : X < w.heap.size) (h2 : Two w X m n) (hfz : ∀ k, k < 6 → w.frozen? ⟨X, k, none⟩ = false) (hm : MvOk m) (hn : MvOk n) (hlt : ordN n m < 0) :
    Calls Try.prog 53 #[.slice (some ⟨X, 0, none⟩) 2 cap, .int .i64 0, .int .i64 2, .func (.func 28) #[] #[]] w fun e w' => e = .returned (.tuple #[]) ∧ Two w' X n m ∧ Below X w w' := by
  have HO := Lib.hid (fun W => order_any n m W hn hm)
  have HT := Lib.hid h2
  have HX := Lib.hid hX
  have hd : decide (ordN n m < 0) = true := by simpa using hlt
  obtain ⟨mf, mt, ms⟩ := m
  obtain ⟨nf, nt, ns⟩ := n
  unfold mvL at HO
  generalize ordN ⟨nf, nt, ns⟩ ⟨mf, mt, ms⟩ = r at *
  have HSC : Hid (∀ W, Below w.heap.size w W → Two W X ⟨mf, mt, ms⟩ ⟨nf, nt, ns⟩) := Lib.hid (fun W hW => h2.kept (hW.block X hX))
  have HFZ := Lib.hid hfz
  have iw0 : IntKind.i64.wrap (0 : Int) = 0 := by decide
  clear hm hn hlt h2 hX hfz
  go_enter Try.func53, Try.ntmps53
  go_wp2_with fail
  go_loopw [8] (fun vi wr => (vi = .int .i64 1 ∧ w = wr) ∨ (vi = .int .i64 2 ∧ Hid (Two wr X ⟨nf, nt, ns⟩ ⟨mf, mt, ms⟩ ∧ Below X w wr))) (fun vi _ => 2 - (intOf vi).toNat)
  case atStart => exact Or.inl ⟨rfl, rfl⟩
  case round =>
    rcases hrel with ⟨rfl, rfl⟩ | ⟨rfl, hR⟩
    · go_wp2_with fail
      go_loopw [9] (fun vi wr2 => (vi = .int .i64 1 ∧ w = wr2) ∨ (vi = .int .i64 0 ∧ Hid (Two wr2 X ⟨nf, nt, ns⟩ ⟨mf, mt, ms⟩ ∧ Below X w wr2))) (fun vi _ => (intOf vi).toNat)
      case atStart => exact Or.inl ⟨rfl, rfl⟩
      case round =>
        rcases hrel with ⟨rfl, rfl⟩ | ⟨rfl, hR⟩
        · go_wp2_with fail
          refine wp_region_D 16 (fun W => Below w.heap.size w W) (by kernel_rfl) (by kernel_rfl) (by kernel_rfl) ?_
          have hSd : Below w.heap.size w w.drew := below_dr w
          refine wpAnyD_take (i := 0) (oi := ⟨_, _, _, _, _, _⟩) (v := ?_) rfl (by kernel_rfl) (by kernel_rfl) (by kernel_rfl) (by kernel_rfl) (fun _ _ _ h => h) (fun _ _ h => h.trans (below_drewN _ _ _)) (Or.inl (Or.inl ⟨by rfl, ?_⟩)) hSd ?_
          rotate_left
          · intro W hSw; (try dsimp only at hSw); obtain ⟨c0, c1, c2, c3, c4, c5⟩ := HSC.out W hSw; (try simp only [iw0]); first | (go_simp; done) | (go_simp; with_reducible rfl)
          try simp only [Act.put, List.setIfInBounds_toArray, List.set_cons_zero, List.set_cons_succ]
          refine wpAnyD_take (i := 1) (oi := ⟨_, _, _, _, _, _⟩) (v := ?_) rfl (by kernel_rfl) (by kernel_rfl) (by kernel_rfl) (by kernel_rfl) (fun _ _ _ h => h) (fun _ _ h => h.trans (below_drewN _ _ _)) (Or.inl (Or.inl ⟨by rfl, ?_⟩)) hSd ?_
          rotate_left
          · intro W hSw; (try dsimp only at hSw); obtain ⟨c0, c1, c2, c3, c4, c5⟩ := HSC.out W hSw; (try simp only [iw0]); first | (go_simp; done) | (go_simp; with_reducible rfl)
          try simp only [Act.put, List.setIfInBounds_toArray, List.set_cons_zero, List.set_cons_succ]
          refine wpAnyD_take (i := 2) (oi := ⟨_, _, _, _, _, _⟩) (v := ?_) rfl (by kernel_rfl) (by kernel_rfl) (by kernel_rfl) (by kernel_rfl) (fun _ _ _ h => h) (fun _ _ h => h.trans (below_drewN _ _ _)) (Or.inl (Or.inl ⟨by rfl, ?_⟩)) hSd ?_
          rotate_left
          · intro W hSw; (try dsimp only at hSw); obtain ⟨c0, c1, c2, c3, c4, c5⟩ := HSC.out W hSw; (try simp only [iw0]); first | (go_simp; done) | (go_simp; with_reducible rfl)
          try simp only [Act.put, List.setIfInBounds_toArray, List.set_cons_zero, List.set_cons_succ]
          refine wpAnyD_take (i := 3) (oi := ⟨_, _, _, _, _, _⟩) (v := ?_) rfl (by kernel_rfl) (by kernel_rfl) (by kernel_rfl) (by kernel_rfl) (fun _ _ _ h => h) (fun _ _ h => h.trans (below_drewN _ _ _)) (Or.inl (Or.inl ⟨by rfl, ?_⟩)) hSd ?_
          rotate_left
          · intro W hSw; (try dsimp only at hSw); obtain ⟨c0, c1, c2, c3, c4, c5⟩ := HSC.out W hSw; (try simp only [iw0]); first | (go_simp; done) | (go_simp; with_reducible rfl)
          try simp only [Act.put, List.setIfInBounds_toArray, List.set_cons_zero, List.set_cons_succ]
          refine wpAnyD_take (i := 4) (oi := ⟨_, _, _, _, _, _⟩) (v := ?_) rfl (by kernel_rfl) (by kernel_rfl) (by kernel_rfl) (by kernel_rfl) (fun _ _ _ h => h) (fun _ _ h => h.trans (below_drewN _ _ _)) (Or.inl (Or.inl ⟨by rfl, ?_⟩)) hSd ?_
          rotate_left
          · intro W hSw; (try dsimp only at hSw); obtain ⟨c0, c1, c2, c3, c4, c5⟩ := HSC.out W hSw; (try simp only [iw0]); first | (go_simp; done) | (go_simp; with_reducible rfl)
          try simp only [Act.put, List.setIfInBounds_toArray, List.set_cons_zero, List.set_cons_succ]
          refine wpAnyD_take (i := 5) (oi := ⟨_, _, _, _, _, _⟩) (v := ?_) rfl (by kernel_rfl) (by kernel_rfl) (by kernel_rfl) (by kernel_rfl) (fun _ _ _ h => h) (fun _ _ h => h.trans (below_drewN _ _ _)) (Or.inl (Or.inl ⟨by rfl, ?_⟩)) hSd ?_
          rotate_left
          · intro W hSw; (try dsimp only at hSw); obtain ⟨c0, c1, c2, c3, c4, c5⟩ := HSC.out W hSw; (try simp only [iw0]); first | (go_simp; done) | (go_simp; with_reducible rfl)
          try simp only [Act.put, List.setIfInBounds_toArray, List.set_cons_zero, List.set_cons_succ]
          refine wpAnyD_take (i := 6) (oi := ⟨_, _, _, _, _, _⟩) (v := ?_) rfl (by kernel_rfl) (by kernel_rfl) (by kernel_rfl) (by kernel_rfl) (fun _ _ _ h => h) (fun _ _ h => h.trans (below_drewN _ _ _)) (Or.inl (Or.inl ⟨by rfl, ?_⟩)) hSd ?_
          rotate_left
          · intro W hSw; (try dsimp only at hSw); obtain ⟨c0, c1, c2, c3, c4, c5⟩ := HSC.out W hSw; (try simp only [iw0]); first | (go_simp; done) | (go_simp; with_reducible rfl)
          try simp only [Act.put, List.setIfInBounds_toArray, List.set_cons_zero, List.set_cons_succ]
          refine wpAnyD_take (i := 7) (oi := ⟨_, _, _, _, _, _⟩) (v := ?_) rfl (by kernel_rfl) (by kernel_rfl) (by kernel_rfl) (by kernel_rfl) (fun _ _ _ h => h) (fun _ _ h => h.trans (below_drewN _ _ _)) (Or.inl (Or.inl ⟨by rfl, ?_⟩)) hSd ?_
          rotate_left
          · intro W hSw; (try dsimp only at hSw); obtain ⟨c0, c1, c2, c3, c4, c5⟩ := HSC.out W hSw; (try simp only [iw0]); first | (go_simp; done) | (go_simp; with_reducible rfl)
          try simp only [Act.put, List.setIfInBounds_toArray, List.set_cons_zero, List.set_cons_succ]
          refine wpAnyD_take (i := 8) (oi := ⟨_, _, _, _, _, _⟩) (v := ?_) rfl (by kernel_rfl) (by kernel_rfl) (by kernel_rfl) (by kernel_rfl) (fun _ _ _ h => h) (fun _ _ h => h.trans (below_drewN _ _ _)) (Or.inl (Or.inl ⟨by rfl, ?_⟩)) hSd ?_
          rotate_left
          · intro W hSw; (try dsimp only at hSw); obtain ⟨c0, c1, c2, c3, c4, c5⟩ := HSC.out W hSw; (try simp only [iw0]); first | (go_simp; done) | (go_simp; with_reducible rfl)
          try simp only [Act.put, List.setIfInBounds_toArray, List.set_cons_zero, List.set_cons_succ]
          refine wpAnyD_take (i := 9) (oi := ⟨_, _, _, _, _, _⟩) (v := ?_) rfl (by kernel_rfl) (by kernel_rfl) (by kernel_rfl) (by kernel_rfl) (fun _ _ _ h => h) (fun _ _ h => h.trans (below_drewN _ _ _)) (Or.inl (Or.inl ⟨by rfl, ?_⟩)) hSd ?_
          rotate_left
          · intro W hSw; (try dsimp only at hSw); obtain ⟨c0, c1, c2, c3, c4, c5⟩ := HSC.out W hSw; (try simp only [iw0]); first | (go_simp; done) | (go_simp; with_reducible rfl)
          try simp only [Act.put, List.setIfInBounds_toArray, List.set_cons_zero, List.set_cons_succ]
          refine wpAnyD_take (i := 10) (oi := ⟨_, _, _, _, _, _⟩) (v := ?_) rfl (by kernel_rfl) (by kernel_rfl) (by kernel_rfl) (by kernel_rfl) (fun _ _ _ h => h) (fun _ _ h => h.trans (below_drewN _ _ _)) (Or.inl (Or.inl ⟨by rfl, ?_⟩)) hSd ?_
          rotate_left
          · intro W hSw; (try dsimp only at hSw); obtain ⟨c0, c1, c2, c3, c4, c5⟩ := HSC.out W hSw; (try simp only [iw0]); first | (go_simp; done) | (go_simp; with_reducible rfl)
          try simp only [Act.put, List.setIfInBounds_toArray, List.set_cons_zero, List.set_cons_succ]
          refine wpAnyD_take (i := 11) (oi := ⟨_, _, _, _, _, _⟩) (v := ?_) rfl (by kernel_rfl) (by kernel_rfl) (by kernel_rfl) (by kernel_rfl) (fun _ _ _ h => h) (fun _ _ h => h.trans (below_drewN _ _ _)) (Or.inl (Or.inl ⟨by rfl, ?_⟩)) hSd ?_
          rotate_left
          · intro W hSw; (try dsimp only at hSw); obtain ⟨c0, c1, c2, c3, c4, c5⟩ := HSC.out W hSw; (try simp only [iw0]); first | (go_simp; done) | (go_simp; with_reducible rfl)
          try simp only [Act.put, List.setIfInBounds_toArray, List.set_cons_zero, List.set_cons_succ]
          refine wpAnyD_take (i := 12) (oi := ⟨_, _, _, _, _, _⟩) (v := ?_) rfl (by kernel_rfl) (by kernel_rfl) (by kernel_rfl) (by kernel_rfl) (fun _ _ _ h => h) (fun _ _ h => h.trans (below_drewN _ _ _)) (Or.inl (Or.inl ⟨by rfl, ?_⟩)) hSd ?_
          rotate_left
          · intro W hSw; (try dsimp only at hSw); obtain ⟨c0, c1, c2, c3, c4, c5⟩ := HSC.out W hSw; (try simp only [iw0]); first | (go_simp; done) | (go_simp; with_reducible rfl)
          try simp only [Act.put, List.setIfInBounds_toArray, List.set_cons_zero, List.set_cons_succ]
          refine wpAnyD_take (i := 13) (oi := ⟨_, _, _, _, _, _⟩) (v := ?_) rfl (by kernel_rfl) (by kernel_rfl) (by kernel_rfl) (by kernel_rfl) (fun _ _ _ h => h) (fun _ _ h => h.trans (below_drewN _ _ _)) (Or.inl (Or.inl ⟨by rfl, ?_⟩)) hSd ?_
          rotate_left
          · intro W hSw; (try dsimp only at hSw); obtain ⟨c0, c1, c2, c3, c4, c5⟩ := HSC.out W hSw; (try simp only [iw0]); first | (go_simp; done) | (go_simp; with_reducible rfl)
          try simp only [Act.put, List.setIfInBounds_toArray, List.set_cons_zero, List.set_cons_succ]
          clear hSd
          refine wpAnyD_one (i := 14) (o := ⟨_, _, _, _, _, _⟩) (by kernel_rfl) (by decide) rfl (fun nq K hK0 => ?_)
          have hK := Lib.hid hK0
          clear hK0
          go_simp
          refine (HO.out _).mono ?_
          rintro e w6 ⟨rfl, hb6⟩
          have HB6 : Hid (Below w.heap.size w w6) := Lib.hid ((below_drewN w.heap.size w (1 + nq)).trans hb6)
          clear hb6
          refine hK.out _ _ (HB6.out) ?_
          clear hK K
          try simp only [Act.put, List.setIfInBounds_toArray, List.set_cons_zero, List.set_cons_succ]
          have hSd := HB6.out
          refine wpAnyD_take (i := 15) (oi := ⟨_, _, _, _, _, _⟩) (v := ?_) rfl (by kernel_rfl) (by kernel_rfl) (by kernel_rfl) (by kernel_rfl) (fun _ _ _ h => h) (fun _ _ h => h.trans (below_drewN _ _ _)) (Or.inl (Or.inl ⟨by rfl, ?_⟩)) hSd ?_
          rotate_left
          · intro W hSw; (try dsimp only at hSw); first | (go_simp; done) | (go_simp; with_reducible rfl)
          try simp only [Act.put, List.setIfInBounds_toArray, List.set_cons_zero, List.set_cons_succ]
          clear hSd
          refine wpAnyD_last (by kernel_rfl) (fun nd => ?_)
          refine wpOp_one rfl (by rfl) ?_
          have HB7 : Hid (Below w.heap.size w (w6.drewN nd)) := Lib.hid (HB6.out.trans (below_drewN _ _ _))
          generalize w6.drewN nd = wa at *
          go_simp
          go_wp2_with fail
          have hsa := HB7.out.size
          obtain ⟨c0, c1, c2, c3, c4, c5⟩ := HSC.out wa HB7.out
          dsimp only at c0 c1 c2 c3 c4 c5
          have hfr : ∀ k, k < 6 → wa.frozen? ⟨X, k, none⟩ = false := fun k hk => by
            have e : wa.frozen? ⟨X, k, none⟩ = w.frozen? ⟨X, k, none⟩ := by unfold World.frozen?; simp only [HB7.out.block X HX.out]
            rw [e]; exact HFZ.out k hk
          have z0 := hfr 0 (by decide)
          have z1 := hfr 1 (by decide)
          have z2 := hfr 2 (by decide)
          have z3 := hfr 3 (by decide)
          have z4 := hfr 4 (by decide)
          have z5 := hfr 5 (by decide)
          clear hfr
          have hne : ∀ (W : World) (k j : Nat) (v : Value), k ≠ j → (W.setCell ⟨X, k, none⟩ v).cell? ⟨X, j, none⟩ = W.cell? ⟨X, j, none⟩ := fun W k j v h => World.cell?_setCell_other W _ _ v (fun e => h (congrArg Addr.off e))
          have d5 : ∀ v0 v1 : Value, ((wa.setCell ⟨X, 3, none⟩ v0).setCell ⟨X, 4, none⟩ v1).cell? ⟨X, 5, none⟩ = some (.float .f64 ns) := fun v0 v1 => by rw [hne _ _ _ _ (by decide)]; rw [hne _ _ _ _ (by decide)]; exact c5
          have e0 : ∀ v0 v1 v2 : Value, (((wa.setCell ⟨X, 3, none⟩ v0).setCell ⟨X, 4, none⟩ v1).setCell ⟨X, 5, none⟩ v2).cell? ⟨X, 0, none⟩ = some (.string ⟨mf.toArray⟩) := fun v0 v1 v2 => by rw [hne _ _ _ _ (by decide)]; rw [hne _ _ _ _ (by decide)]; rw [hne _ _ _ _ (by decide)]; exact c0
          have e1 : ∀ v0 v1 v2 v3 : Value, ((((wa.setCell ⟨X, 3, none⟩ v0).setCell ⟨X, 4, none⟩ v1).setCell ⟨X, 5, none⟩ v2).setCell ⟨X, 0, none⟩ v3).cell? ⟨X, 1, none⟩ = some (.string ⟨mt.toArray⟩) := fun v0 v1 v2 v3 => by rw [hne _ _ _ _ (by decide)]; rw [hne _ _ _ _ (by decide)]; rw [hne _ _ _ _ (by decide)]; rw [hne _ _ _ _ (by decide)]; exact c1
          have e2 : ∀ v0 v1 v2 v3 v4 : Value, (((((wa.setCell ⟨X, 3, none⟩ v0).setCell ⟨X, 4, none⟩ v1).setCell ⟨X, 5, none⟩ v2).setCell ⟨X, 0, none⟩ v3).setCell ⟨X, 1, none⟩ v4).cell? ⟨X, 2, none⟩ = some (.float .f64 ms) := fun v0 v1 v2 v3 v4 => by rw [hne _ _ _ _ (by decide)]; rw [hne _ _ _ _ (by decide)]; rw [hne _ _ _ _ (by decide)]; rw [hne _ _ _ _ (by decide)]; rw [hne _ _ _ _ (by decide)]; exact c2
          clear hne
          have hsf : ∀ (W : World) (a : Addr) (b : Nat), Sem.run Try.prog (store a (.float .f64 b)) W = stored Try.prog W a (.float .f64 b) .plain := fun W a b => run_store _ W a _ _ rfl
          go_region
          go_wp2_with fail
          go_roundw
          case rel =>
            have hs := swap_end HX.out (HSC.out wa HB7.out) HB7.out
            unfold swapW at hs
            dsimp only at hs
            exact Or.inr ⟨rfl, Lib.hid hs⟩
          case measure => simp [intOf]
        · go_upto_region 4 with fail
          go_quiet (fail)
          go_wp2_with fail
          go_roundw
          case rel => exact Or.inr ⟨rfl, Lib.hid ⟨hR.out.1.kept rfl, hR.out.2.trans (below_drewN X _ _)⟩⟩
          case measure => simp [intOf]
    · go_wp2_with fail
      go_end0
      exact ⟨rfl, hR.out.1, hR.out.2⟩
set_option maxRecDepth 100000 in
set_option maxHeartbeats 1000000 in
theorem stable2_any (X cap : Nat) (m n : Mv) (w : World) (hX : X < w.heap.size) (h2 : Two w X m n) (hfz : ∀ k, k < 6 → w.frozen? ⟨X, k, none⟩ = false) (hm : MvOk m) (hn : MvOk n) (hlt : ordN n m < 0) :
    Calls Try.prog 41 #[.slice (some ⟨X, 0, none⟩) 2 cap, .int .i64 2, .func (.func 28) #[] #[]] w fun e w' => e = .returned (.tuple #[]) ∧ Two w' X n m ∧ Below X w w' := by
  have HI := Lib.hid (insert2_any X cap m n w hX h2 hfz hm hn hlt)
  clear hX h2 hfz hm hn hlt
  go_enter Try.func41, Try.ntmps41
  go_wp2_with fail
  go_loopw [7, 8] (fun va vb wr => va = .int .i64 0 ∧ vb = .int .i64 20 ∧ w = wr) (fun _ _ _ => 0)
  case atStart => exact ⟨rfl, rfl, rfl⟩
  case round =>
    obtain ⟨rfl, rfl, rfl⟩ := hrel
    go_wp2_with fail
    refine (HI.out).mono ?_
    rintro e w1 ⟨rfl, h1⟩
    have H1 := Lib.hid h1
    clear h1
    go_wp2_with fail
    go_loopw [6] (fun va wr => va = .int .i64 20 ∧ w1 = wr) (fun _ _ => 0)
    case atStart => exact ⟨rfl, rfl⟩
    case round =>
      obtain ⟨rfl, rfl⟩ := hrel
      go_wp2_with fail
      go_end0
      exact ⟨rfl, H1.out⟩
set_option maxRecDepth 100000 in
set_option maxHeartbeats 1000000 in
theorem sort2_any (X cap : Nat) (m n : Mv) (w : World) (hX : X < w.heap.size) (h2 : Two w X m n) (hfz : ∀ k, k < 6 → w.frozen? ⟨X, k, none⟩ = false) (hm : MvOk m) (hn : MvOk n) (hlt : ordN n m < 0) :
    Calls Try.prog 27 #[.slice (some ⟨X, 0, none⟩) 2 cap, .func (.func 28) #[] #[]] w fun e w' => e = .returned (.tuple #[]) ∧ Two w' X n m ∧ Below X w w' := by
  have HI := Lib.hid (stable2_any X cap m n w hX h2 hfz hm hn hlt)
  clear hX h2 hfz hm hn hlt
  go_enter Try.func27, Try.ntmps27
  go_wp2_with fail
  refine (HI.out).mono ?_
  rintro e w1 ⟨rfl, h1⟩
  have H1 := Lib.hid h1
  clear h1
  go_wp2_with fail
  go_end0
  exact ⟨rfl, H1.out⟩
end Go.Proofs.Ytaajfekolokaoaa
