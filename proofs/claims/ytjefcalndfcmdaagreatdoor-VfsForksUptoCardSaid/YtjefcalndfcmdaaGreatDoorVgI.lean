/- The reference's change of names. -/
import Derived.Test.YtjefcalndfcmdaaGreatDoorVgEH
import Derived.Test.YtjefcalndfcmdaaGreatDoorVfE
namespace Go.Proofs.YtjefcalndfcmdaaGreatDoor
open Go.RowKit Go.Maps
attribute [local go_sem ↓] Go.wp_at_zero Go.wp_at_succ
theorem acR_append (a b : List Ac) : acR (a ++ b) = acR a ++ acR b := by
  induction a with
  | nil => rfl
  | cons p r ih => show _ :: _ :: _ :: acR (r ++ b) = _ :: _ :: _ :: (acR r ++ acR b); rw [ih]
theorem acR_one (l : List Ac) : ∀ u ∈ acR l, u.oneCell' = true := by
  induction l with
  | nil => intro u hu; cases hu
  | cons p r ih =>
    intro u hu
    rcases List.mem_cons.1 hu with rfl | hu
    · rfl
    rcases List.mem_cons.1 hu with rfl | hu
    · rfl
    rcases List.mem_cons.1 hu with rfl | hu
    · rfl
    exact ih u hu
theorem Tryz.info92a : (Tryz.prog.info? 92).map (fun i => (i.zero, i.size, i.bytes)) = some (some (.agg #[.string ByteArray.empty, .string ByteArray.empty, .int .i64 0]), 3, 40) := by kernel_rfl
def OwnAc (w : World) (B : Nat) (v : Value) (l : List Ac) : Prop := w.ownsRow B 92 3 v l.length (acR l)
theorem ownAc_slice {w : World} {B : Nat} {v : Value} {l : List Ac} (h : OwnAc w B v l) : ∃ a cap, v = .slice a l.length cap := by
  rcases h.2 with ⟨e, hn⟩ | ⟨g, cap, cur, e, _⟩
  · rw [hn]; exact ⟨none, 0, e⟩
  · exact ⟨_, _, e⟩
theorem ownAc_c {w : World} {B : Nat} {v : Value} {l : List Ac} (h : OwnAc w B v l) : CellsC (fun k => B ≤ k ∧ k < w.heap.size) w v l.length 3 (acR l) := own_cells h (acR_one l)
theorem ownAc_empty (w : World) : OwnAc (w.alloc (.cells #[] 92)) w.heap.size (.slice (some ⟨w.heap.size, 0, none⟩) 0 0) [] :=
  ⟨rfl, Or.inr ⟨w.heap.size, 0, #[], rfl, Nat.le_refl _, new_five w _ _, Nat.le_refl _, Nat.zero_le _, rfl, rfl⟩⟩
theorem ownAc_more {w2 : World} {B n : Nat} {v : Value} {l r : List Ac} (hn : n = l.length + r.length) (h : w2.ownsRow B 92 3 v n (acR l ++ acR r)) : OwnAc w2 B v (l ++ r) := by
  unfold OwnAc
  rw [acR_append, List.length_append, ← hn]; exact h
theorem srcAc_one (w : World) (x y : ByteArray) (z : Int) : Src Tryz.prog 3 31 (.slice (some ⟨w.heap.size, 0, none⟩) 1 1) 1 [.string x, .string y, .int .i64 z] (w.alloc (.cells #[.string x, .string y, .int .i64 z] 92)) :=
  Src.ofSlice _ Tryz.underlying31 _ 1 1 _ rfl (fun j u hj => by
    rw [add_pos, Nat.zero_add, World.cell?_alloc_mark]; simpa using hj) (fun u hu => by
    simp at hu; rcases hu with rfl | rfl | rfl <;> rfl)
theorem FsBox.kept {w w' : World} {b : Nat} {vf vn vs va : Value} {room steps l : Int} (h : FsBox w b vf vn vs va room steps l) (hk : w'.heap[b]? = w.heap[b]?) : FsBox w' b vf vn vs va room steps l := ⟨hk.trans h.blk⟩
theorem FsBox.set1 {w : World} {b : Nat} {vf vn vs va : Value} {room steps l : Int} (h : FsBox w b vf vn vs va room steps l) (v : Value) : FsBox (w.setCell ⟨b, 1, none⟩ v) b vf v vs va room steps l := ⟨(cells_set (i := 1) h.blk v).trans rfl⟩
theorem FsBox.set3 {w : World} {b : Nat} {vf vn vs va : Value} {room steps l : Int} (h : FsBox w b vf vn vs va room steps l) (v : Value) : FsBox (w.setCell ⟨b, 3, none⟩ v) b vf vn vs v room steps l := ⟨(cells_set (i := 3) h.blk v).trans rfl⟩
theorem three_box (w : World) (vf vn vs va : Value) (room steps l : Int) (x y z : Value) (r : Array Value) :
    FsBox (((w.alloc (.cells (fsV vf vn vs va room steps l) 33)).alloc (.cells #[x, y, z] 92)).alloc (.cells r 33)) w.heap.size vf vn vs va room steps l ∧
    (((w.alloc (.cells (fsV vf vn vs va room steps l) 33)).alloc (.cells #[x, y, z] 92)).alloc (.cells r 33)).heap[w.heap.size + 1]? = some (.cells #[x, y, z] 92 (0, 0)) ∧
    (((w.alloc (.cells (fsV vf vn vs va room steps l) 33)).alloc (.cells #[x, y, z] 92)).alloc (.cells r 33)).heap[w.heap.size + 1 + 1]? = some (.cells r 33 (0, 0)) ∧
    Below w.heap.size w (((w.alloc (.cells (fsV vf vn vs va room steps l) 33)).alloc (.cells #[x, y, z] 92)).alloc (.cells r 33)) ∧
    (((w.alloc (.cells (fsV vf vn vs va room steps l) 33)).alloc (.cells #[x, y, z] 92)).alloc (.cells r 33)).heap.size = w.heap.size + 3 := by
  have h0 := new_five w (fsV vf vn vs va room steps l) 33
  generalize hw1 : w.alloc (.cells (fsV vf vn vs va room steps l) 33) = w1 at *
  have z1 : w1.heap.size = w.heap.size + 1 := by rw [← hw1]; simp
  have h1 := new_five w1 #[x, y, z] 92
  have k1 := Below.heap_alloc w1 (.cells #[x, y, z] 92) w.heap.size (by omega)
  generalize hw2 : w1.alloc (.cells #[x, y, z] 92) = w2 at *
  have z2 : w2.heap.size = w.heap.size + 1 + 1 := by rw [← hw2]; simp; omega
  have h2 := new_five w2 r 33
  rw [z1] at h1
  rw [z2] at h2
  have k2 := Below.heap_alloc w2 (.cells r 33) w.heap.size (by omega)
  have k3 := Below.heap_alloc w2 (.cells r 33) (w.heap.size + 1) (by omega)
  refine ⟨⟨k2.trans (k1.trans h0)⟩, k3.trans h1, h2, ?_, by simp; omega⟩
  rw [← hw2, ← hw1]
  exact (((Below.refl _ w).alloc (Nat.le_refl _) _).alloc (by simp) _).alloc (by simp; omega) _
structure SetP (b : Nat) (w w' : World) : Prop where
  far : ∀ k, k ≠ b → w'.heap[k]? = w.heap[k]?
  size : w'.heap.size = w.heap.size
  below : ∀ (B : Nat) (w0 : World), Below B w0 w → B ≤ b → Below B w0 w'
theorem SetP.one (w : World) (b i : Nat) (v : Value) : SetP b w (w.setCell ⟨b, i, none⟩ v) := ⟨fun k hk => Below.heap_setCell w _ _ k hk, by simp, fun _ _ h hb => h.setCell hb _⟩
theorem SetP.trans {b : Nat} {w w1 w2 : World} (h : SetP b w w1) (k : SetP b w1 w2) : SetP b w w2 := ⟨fun q hq => (k.far q hq).trans (h.far q hq), k.size.trans h.size, fun B w0 x hb => k.below B w0 (h.below B w0 x hb) hb⟩
theorem fs_put {w : World} {b : Nat} {x0 x1 x2 x3 x4 x5 x6 : Value} (h : w.heap[b]? = some (.cells #[x0, x1, x2, x3, x4, x5, x6] 33 (0, 0))) (v0 v1 v2 v3 : Value) (room steps l : Int) {W : World}
    (hW : ((((((w.setCell ⟨b, 0, none⟩ v0).setCell ⟨b, 1, none⟩ v1).setCell ⟨b, 2, none⟩ v2).setCell ⟨b, 3, none⟩ v3).setCell ⟨b, 4, none⟩ (.int .i64 room)).setCell ⟨b, 5, none⟩ (.int .i64 steps)).setCell ⟨b, 6, none⟩ (.int .i64 l) = W) :
    FsBox W b v0 v1 v2 v3 room steps l ∧ SetP b w W := by
  have s0 := cells_set (i := 0) h v0
  have p0 := SetP.one w b 0 v0
  simp only [List.setIfInBounds_toArray, List.set_cons_zero] at s0
  generalize w.setCell ⟨b, 0, none⟩ v0 = w1 at *
  have s1 := cells_set (i := 1) s0 v1
  have p1 := SetP.one w1 b 1 v1
  simp only [List.setIfInBounds_toArray, List.set_cons_zero, List.set_cons_succ] at s1
  generalize w1.setCell ⟨b, 1, none⟩ v1 = w2 at *
  have s2 := cells_set (i := 2) s1 v2
  have p2 := SetP.one w2 b 2 v2
  simp only [List.setIfInBounds_toArray, List.set_cons_zero, List.set_cons_succ] at s2
  generalize w2.setCell ⟨b, 2, none⟩ v2 = w3 at *
  have s3 := cells_set (i := 3) s2 v3
  have p3 := SetP.one w3 b 3 v3
  simp only [List.setIfInBounds_toArray, List.set_cons_zero, List.set_cons_succ] at s3
  generalize w3.setCell ⟨b, 3, none⟩ v3 = w4 at *
  have s4 := cells_set (i := 4) s3 (.int .i64 room)
  have p4 := SetP.one w4 b 4 (.int .i64 room)
  simp only [List.setIfInBounds_toArray, List.set_cons_zero, List.set_cons_succ] at s4
  generalize w4.setCell ⟨b, 4, none⟩ (.int .i64 room) = w5 at *
  have s5 := cells_set (i := 5) s4 (.int .i64 steps)
  have p5 := SetP.one w5 b 5 (.int .i64 steps)
  simp only [List.setIfInBounds_toArray, List.set_cons_zero, List.set_cons_succ] at s5
  generalize w5.setCell ⟨b, 5, none⟩ (.int .i64 steps) = w6 at *
  have s6 := cells_set (i := 6) s5 (.int .i64 l)
  have p6 := SetP.one w6 b 6 (.int .i64 l)
  simp only [List.setIfInBounds_toArray, List.set_cons_zero, List.set_cons_succ] at s6
  rw [hW] at s6 p6
  exact ⟨⟨s6⟩, p0.trans (p1.trans (p2.trans (p3.trans (p4.trans (p5.trans p6)))))⟩
set_option maxRecDepth 100000 in
set_option maxHeartbeats 4000000 in
theorem rchange_any (S : Nat → Prop) (af an az aa : Option Addr) (cf cn cs ca : Nat) (room steps l : Int) (s : Fs) (a : Ac) (w : World) (h : FsR S w (.slice af s.files.length cf) (.slice an s.now.length cn) (.slice az s.sure.length cs) (.slice aa s.acts.length ca) s) (hS : ∀ k, S k → k < w.heap.size)
    (hr : Rise s.now) (hn : ∀ p ∈ s.now, p.1 ≠ []) (hnl : s.now.length ≤ 4194304) (hal : s.acts.length ≤ 16777216) :
    Calls Tryz.prog 50 #[.agg (fsV (.slice af s.files.length cf) (.slice an s.now.length cn) (.slice az s.sure.length cs) (.slice aa s.acts.length ca) room steps l), .agg #[.string ⟨a.gone.toArray⟩, .string ⟨a.come.toArray⟩, .int .i64 (acI a)]] w fun e w' => ∃ vn va, e = .returned (.agg (fsV (.slice af s.files.length cf) vn (.slice az s.sure.length cs) va room steps l)) ∧ FsR (fun k => S k ∨ (w.heap.size ≤ k ∧ k < w'.heap.size)) w' (.slice af s.files.length cf) vn (.slice az s.sure.length cs) va (chg s a) ∧ Below w.heap.size w w' := by
  obtain ⟨gone, come, file⟩ := a
  have HH := Lib.hid h
  have HS := Lib.hid hS
  obtain ⟨i0, hi, hz0, hz1, hz2⟩ := info_parts Tryz.info92a
  have HD := Lib.hid (fun (W : World) (hb : Below w.heap.size w W) => rdo_any S (.slice an s.now.length cn) s.now gone come file W (h.now.kept (fun k hk => ⟨hk, hb.block k (hS k hk)⟩)) (fun k hk => Nat.lt_of_lt_of_le (hS k hk) hb.size) hnl hr hn)
  obtain ⟨fi, hfi⟩ : ∃ x, acI ⟨gone, come, file⟩ = x := ⟨_, rfl⟩
  have HFI := Lib.hid hfi
  rw [hfi] at HD ⊢
  dsimp only
  clear h hS hr hn hfi
  have HT := Lib.hid (three_box w (.slice af s.files.length cf) (.slice an s.now.length cn) (.slice az s.sure.length cs) (.slice aa s.acts.length ca) room steps l (.string ⟨gone.toArray⟩) (.string ⟨come.toArray⟩) (.int .i64 fi) (fsV (.slice none 0 0) (.slice none 0 0) (.slice none 0 0) (.slice none 0 0) 0 0 0))
  unfold fsV at HT ⊢
  go_enter Tryz.func50, Tryz.ntmps50
  go_upto_region 1 with fail
  obtain ⟨w2, hw2⟩ : ∃ x, ((w.alloc (.cells #[.slice af s.files.length cf, .slice an s.now.length cn, .slice az s.sure.length cs, .slice aa s.acts.length ca, .int .i64 room, .int .i64 steps, .int .i64 l] 33)).alloc (.cells #[.string ⟨gone.toArray⟩, .string ⟨come.toArray⟩, .int .i64 fi] 92)).alloc (.cells #[.slice none 0 0, .slice none 0 0, .slice none 0 0, .slice none 0 0, .int .i64 0, .int .i64 0, .int .i64 0] 33) = x := ⟨_, rfl⟩
  rw [hw2] at HT ⊢
  clear hw2
  obtain ⟨hX2, hA2, hR2, hB2, hZ2⟩ := HT.out
  have X2 := Lib.hid hX2
  have A2 := Lib.hid hA2
  have R2 := Lib.hid hR2
  have B2 := Lib.hid hB2
  have Z2 := Lib.hid hZ2
  obtain ⟨_, c1, _, _, _, _, _⟩ := hX2.cells
  have d0 : w2.cell? ⟨w.heap.size + 1, 0, none⟩ = some (.string ⟨gone.toArray⟩) := (cell_of_row _ _ _ _ _ _ hA2).trans rfl
  have d1 : w2.cell? ⟨w.heap.size + 1, 1, none⟩ = some (.string ⟨come.toArray⟩) := (cell_of_row _ _ _ _ _ _ hA2).trans rfl
  have d2 : w2.cell? ⟨w.heap.size + 1, 2, none⟩ = some (.int .i64 fi) := (cell_of_row _ _ _ _ _ _ hA2).trans rfl
  have HDO := Lib.hid (HD.out w2 hB2)
  clear hX2 hA2 hR2 hB2 hZ2 HT HD
  go_wp2_with fail
  refine HDO.out.mono ?_
  rintro e w3 ⟨v3, rfl, n3, b3⟩
  obtain ⟨l1, hl1⟩ : ∃ q, doA s.now ⟨gone, come, file⟩ = q := ⟨_, rfl⟩
  have HL1 := Lib.hid hl1
  rw [hl1] at n3
  clear hl1
  obtain ⟨a3, c3, rfl⟩ := CellsC.shape n3
  have X3 := Lib.hid (X2.out.kept (b3.block _ (by have := Z2.out; omega)))
  have A3 := Lib.hid ((b3.block _ (by have := Z2.out; omega)).trans A2.out)
  have R3 := Lib.hid ((b3.block _ (by have := Z2.out; omega)).trans R2.out)
  have B3 : Hid (Below w.heap.size w w3) := Lib.hid (B2.out.trans (b3.mono (by have := Z2.out; omega)))
  have N3 := Lib.hid n3
  have Z3 : Hid (w.heap.size + 3 ≤ w3.heap.size) := Lib.hid (by have := Z2.out; have := b3.size; omega)
  have ff : w3.frozen? ⟨w.heap.size, 1, none⟩ = false := X3.out.free 1
  obtain ⟨_, e1, _, _, _, _, _⟩ := X3.out.cells
  have Z2' := Z2.out
  clear n3 b3 c1 d0 d1 d2 HDO
  go_upto_region 2 with fail
  have X4 := Lib.hid (X3.out.set1 (.slice a3 l1.length c3))
  have K4 : Hid (∀ k, k ≠ w.heap.size → (w3.setCell ⟨w.heap.size, 1, none⟩ (.slice a3 l1.length c3)).heap[k]? = w3.heap[k]?) := Lib.hid (fun k hk => Below.heap_setCell w3 _ _ k hk)
  have Z4 : Hid ((w3.setCell ⟨w.heap.size, 1, none⟩ (.slice a3 l1.length c3)).heap.size = w3.heap.size) := Lib.hid (by simp)
  have B4 : Hid (Below w.heap.size w (w3.setCell ⟨w.heap.size, 1, none⟩ (.slice a3 l1.length c3))) := Lib.hid (B3.out.setCell (Nat.le_refl _) _)
  clear ff e1
  generalize w3.setCell ⟨w.heap.size, 1, none⟩ (.slice a3 l1.length c3) = w4 at *
  have HLT : Hid (w.heap.size + 3 ≤ w4.heap.size) := Lib.hid (by have := Z4.out; have := Z3.out; omega)
  obtain ⟨_, _, _, c3', _, _, _⟩ := (X4.out.kept (Below.heap_alloc w4 (.cells #[] 92) w.heap.size (by have := HLT.out; omega))).cells
  have HO := Lib.hid (ownAc_empty w4)
  have SRC : Hid (Src Tryz.prog 3 31 (.slice aa s.acts.length ca) s.acts.length (acR s.acts) (w4.alloc (.cells #[] 92))) := Lib.hid ((CellsC.kept HH.out.acts (S' := fun _ => True) (fun k hk => ⟨trivial, (Below.heap_alloc w4 _ k (by have := HS.out k hk; have := Z4.out; have := Z3.out; omega)).trans (B4.out.block k (HS.out k hk))⟩)).src Tryz.underlying31)
  have BQ := Lib.hid ((Below.refl w4.heap.size w4).alloc (Nat.le_refl _) (.cells #[] 92))
  go_upto_region 3 with (at_builtin; refine wpList_own_src _ rfl _ _ 31 31 rfl w4.heap.size 92 i0 (.agg #[.string ByteArray.empty, .string ByteArray.empty, .int .i64 0]) 3 40 Tryz.underlying31 hi hz0 hz1 hz2 rfl (by decide) _ _ _ rfl HO.out _ s.acts.length _ rfl SRC.out (by unfold maxLen; simp; omega) (by simp; omega) (by simp) ?_; intro v5 w5 hown5 hg5)
  have O5 : Hid (OwnAc w5 w4.heap.size v5 s.acts) := Lib.hid (ownAc_more (l := []) (by simp) hown5)
  have B5 : Hid (Below w4.heap.size w4 w5) := Lib.hid (BQ.out.grown hg5.gb (by simp) (fun q hq => Nat.le_of_eq (Option.some.inj hq)))
  clear hown5 hg5 c3'
  obtain ⟨ua, uc, rfl⟩ := ownAc_slice O5.out
  have A5 := Lib.hid ((B5.out.block (w.heap.size + 1) (by have := HLT.out; omega)).trans ((K4.out _ (by omega)).trans A3.out))
  have d0 : w5.cell? ⟨w.heap.size + 1, 0, none⟩ = some (.string ⟨gone.toArray⟩) := (cell_of_row _ _ _ _ _ _ A5.out).trans rfl
  have d1 : w5.cell? ⟨w.heap.size + 1, 1, none⟩ = some (.string ⟨come.toArray⟩) := (cell_of_row _ _ _ _ _ _ A5.out).trans rfl
  have d2 : w5.cell? ⟨w.heap.size + 1, 2, none⟩ = some (.int .i64 fi) := (cell_of_row _ _ _ _ _ _ A5.out).trans rfl
  go_wp2_with (at_builtin; refine wpList_own_src _ rfl _ _ 31 31 rfl w4.heap.size 92 i0 (.agg #[.string ByteArray.empty, .string ByteArray.empty, .int .i64 0]) 3 40 Tryz.underlying31 hi hz0 hz1 hz2 rfl (by decide) _ _ _ rfl (World.ownsRow.alloc O5.out _) _ 1 [.string ⟨gone.toArray⟩, .string ⟨come.toArray⟩, .int .i64 fi] rfl (srcAc_one _ _ _ _) (by unfold maxLen; omega) (by omega) (by have := B5.out.size; simp; omega) ?_)
  intro v6 w6 hown6 hg6
  have O6 : Hid (OwnAc w6 w4.heap.size v6 (s.acts ++ [⟨gone, come, file⟩])) := Lib.hid (by
    have h := hown6
    rw [← HFI.out] at h
    exact ownAc_more (r := [⟨gone, come, file⟩]) rfl h)
  have B6 : Hid (Below w4.heap.size w4 w6) := Lib.hid ((B5.out.alloc B5.out.size _).grown hg6.gb (by have := B5.out.size; simp; omega) (fun j hj => (World.ownsRow.lt O5.out j hj).1))
  clear hown6 hg6 d0 d1 d2
  have X6 := Lib.hid (X4.out.kept (B6.out.block _ (by have := HLT.out; omega)))
  have R6 := Lib.hid ((B6.out.block (w.heap.size + 1 + 1) (by have := HLT.out; omega)).trans ((K4.out _ (by omega)).trans R3.out))
  obtain ⟨a6, c6, rfl⟩ := ownAc_slice O6.out
  have ff : w6.frozen? ⟨w.heap.size, 3, none⟩ = false := X6.out.free 3
  obtain ⟨_, _, _, e3, _, _, _⟩ := X6.out.cells
  go_upto_region 4 with fail
  have hl6 : (s.acts ++ [(⟨gone, come, file⟩ : Ac)]).length = s.acts.length + 1 := by simp
  rw [hl6] at O6
  have X7 := Lib.hid (X6.out.set3 (.slice a6 (s.acts.length + 1) c6))
  have K7 : Hid (∀ k, k ≠ w.heap.size → (w6.setCell ⟨w.heap.size, 3, none⟩ (.slice a6 (s.acts.length + 1) c6)).heap[k]? = w6.heap[k]?) := Lib.hid (fun k hk => Below.heap_setCell w6 _ _ k hk)
  have Z7 : Hid ((w6.setCell ⟨w.heap.size, 3, none⟩ (.slice a6 (s.acts.length + 1) c6)).heap.size = w6.heap.size) := Lib.hid (by simp)
  have B7 : Hid (Below w.heap.size w (w6.setCell ⟨w.heap.size, 3, none⟩ (.slice a6 (s.acts.length + 1) c6))) := Lib.hid ((B4.out.trans (B6.out.mono (by have := HLT.out; omega))).setCell (Nat.le_refl _) _)
  clear ff e3
  generalize w6.setCell ⟨w.heap.size, 3, none⟩ (.slice a6 (s.acts.length + 1) c6) = w7 at *
  have R7 := Lib.hid ((K7.out (w.heap.size + 1 + 1) (by omega)).trans R6.out)
  obtain ⟨q0, q1, q2, q3, q4, q5, q6⟩ := X7.out.cells
  have rc := fun (k : Nat) (v : Value) (hv : #[Value.slice none 0 0, .slice none 0 0, .slice none 0 0, .slice none 0 0, .int .i64 0, .int .i64 0, .int .i64 0][k]? = some v) => (cell_of_row w7 (w.heap.size + 1 + 1) k _ _ _ R7.out).trans hv
  have r0 := rc 0 _ rfl
  have r1 := rc 1 _ rfl
  have r2 := rc 2 _ rfl
  have r3 := rc 3 _ rfl
  have r4 := rc 4 _ rfl
  have r5 := rc 5 _ rfl
  have r6 := rc 6 _ rfl
  have fr : ∀ q : Nat, w7.frozen? ⟨w.heap.size + 1 + 1, q, none⟩ = false := frozen_box R7.out
  clear rc
  go_wp2_with fail
  obtain ⟨W, hW⟩ : ∃ x, ((((((w7.setCell ⟨w.heap.size + 1 + 1, 0, none⟩ (.slice af s.files.length cf)).setCell ⟨w.heap.size + 1 + 1, 1, none⟩ (.slice a3 l1.length c3)).setCell ⟨w.heap.size + 1 + 1, 2, none⟩ (.slice az s.sure.length cs)).setCell ⟨w.heap.size + 1 + 1, 3, none⟩ (.slice a6 (s.acts.length + 1) c6)).setCell ⟨w.heap.size + 1 + 1, 4, none⟩ (.int .i64 room)).setCell ⟨w.heap.size + 1 + 1, 5, none⟩ (.int .i64 steps)).setCell ⟨w.heap.size + 1 + 1, 6, none⟩ (.int .i64 l) = x := ⟨_, rfl⟩
  rw [hW]
  obtain ⟨hX, hP⟩ := fs_put R7.out _ _ _ _ _ _ _ hW
  have BW := Lib.hid (hP.below w.heap.size w B7.out (by omega))
  have KW := Lib.hid hP.far
  have ZW := Lib.hid hP.size
  clear hW hP q0 q1 q2 q3 q4 q5 q6 r0 r1 r2 r3 r4 r5 r6 fr
  obtain ⟨q0, q1, q2, q3, q4, q5, q6⟩ := hX.cells
  clear hX
  refine bodyPost_ret (v := .agg #[.slice af s.files.length cf, .slice a3 l1.length c3, .slice az s.sure.length cs, .slice a6 (s.acts.length + 1) c6, .int .i64 room, .int .i64 steps, .int .i64 l]) (by simp [results, Tryz.results50, go_sem, q0, q1, q2, q3, q4, q5, q6]) rfl ⟨_, _, rfl, ?_, BW.out⟩
  have hz3 := Z3.out
  have hz4 := Z4.out
  have hz7 := Z7.out
  have hzw := ZW.out
  have hz6 := B6.out.size
  have hz2 := Z2.out
  have hS : ∀ k, S k → (S k ∨ (w.heap.size ≤ k ∧ k < W.heap.size)) ∧ W.heap[k]? = w.heap[k]? := fun k hk => ⟨Or.inl hk, BW.out.block k (HS.out k hk)⟩
  have hK : ∀ k, w.heap.size + 3 ≤ k ∨ S k → k < w6.heap.size → W.heap[k]? = w6.heap[k]? := fun k hk _ => by
    have h1 : k ≠ w.heap.size + 1 + 1 ∧ k ≠ w.heap.size := by
      rcases hk with hk | hk
      · omega
      · have := HS.out k hk; omega
    exact (KW.out k h1.1).trans (K7.out k h1.2)
  refine ⟨HH.out.files.kept hS, ?_, HH.out.sure.kept hS, ?_⟩
  · show NmC _ _ _ (doA s.now ⟨gone, come, file⟩)
    rw [HL1.out]
    refine N3.out.kept (fun k hk => ?_)
    rcases hk with hk | hk
    · have hlt := HS.out k hk
      exact ⟨Or.inl hk, (BW.out.block k hlt).trans (B3.out.block k hlt).symm⟩
    · exact ⟨Or.inr ⟨by omega, by omega⟩, (hK k (Or.inl (by omega)) (by omega)).trans ((B6.out.block k (by omega)).trans (K4.out k (by omega)))⟩
  · have h := ownAc_c O6.out
    show CellsC _ _ _ (s.acts ++ [(⟨gone, come, file⟩ : Ac)]).length 3 (acR (s.acts ++ [(⟨gone, come, file⟩ : Ac)]))
    have h2 := h.kept (S' := fun k => S k ∨ (w.heap.size ≤ k ∧ k < W.heap.size)) (w' := W) (fun k hk => ⟨Or.inr ⟨by omega, by omega⟩, hK k (Or.inl (by omega)) hk.2⟩)
    exact h2
end Go.Proofs.YtjefcalndfcmdaaGreatDoor
