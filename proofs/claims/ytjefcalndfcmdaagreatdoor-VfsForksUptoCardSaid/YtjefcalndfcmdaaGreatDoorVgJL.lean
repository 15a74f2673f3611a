/- The reference's Wrong. Rows of files of the reference: owned, an element stored. The reference's put. -/
import Derived.Test.YtjefcalndfcmdaaGreatDoorVgI
namespace Go.Proofs.YtjefcalndfcmdaaGreatDoor
open Go.RowKit Go.Maps
attribute [local go_sem ↓] Go.wp_at_zero Go.wp_at_succ
set_option maxRecDepth 100000 in
theorem rwrong_any (n : Int) (w : World) : Calls Tryz.prog 9 #[.int .i64 n] w fun e w' => e = .returned (.int .i64 (if n < 0 ∨ 4194304 < n then 1 else 0)) ∧ w' = w := by
  obtain ⟨R, hR⟩ : ∃ R : Int, (if n < 0 ∨ 4194304 < n then 1 else 0) = R := ⟨_, rfl⟩
  rw [hR]
  have HR := Lib.hid hR
  clear hR
  by_cases h0 : n < 0
  · have y0 : decide (n < 0) = true := decide_eq_true h0
    have HR2 : Hid (R = 1) := Lib.hid (by rw [← HR.out, if_pos (Or.inl h0)])
    clear h0
    go_enter Tryz.func9, Tryz.ntmps9
    go_wp2_with fail
    go_ret
    exact ⟨by rw [HR2.out]; first | done | rfl, rfl⟩
  · have y0 : decide (n < 0) = false := decide_eq_false h0
    by_cases h1 : 4194304 < n
    · have y1 : decide (n > 4194304) = true := decide_eq_true h1
      have HR2 : Hid (R = 1) := Lib.hid (by rw [← HR.out, if_pos (Or.inr h1)])
      clear h0 h1
      go_enter Tryz.func9, Tryz.ntmps9
      go_wp2_with fail
      go_ret
      exact ⟨by rw [HR2.out]; first | done | rfl, rfl⟩
    · have y1 : decide (n > 4194304) = false := decide_eq_false h1
      have HR2 : Hid (R = 0) := Lib.hid (by rw [← HR.out, if_neg (by rintro (h | h); exact h0 h; exact h1 h)])
      clear h0 h1
      go_enter Tryz.func9, Tryz.ntmps9
      go_wp2_with fail
      go_ret
      exact ⟨by rw [HR2.out]; first | done | rfl, rfl⟩
end Go.Proofs.YtjefcalndfcmdaaGreatDoor
namespace Go.Proofs.YtjefcalndfcmdaaGreatDoor
open Go.RowKit Go.Maps
theorem fiV_append (a b : List Fi) : fiV (a ++ b) = fiV a ++ fiV b := by
  induction a with
  | nil => rfl
  | cons p r ih => show _ :: _ :: fiV (r ++ b) = _ :: _ :: (fiV r ++ fiV b); rw [ih]
theorem fiV_one (l : List Fi) : ∀ u ∈ fiV l, u.oneCell' = true := by
  induction l with
  | nil => intro u hu; cases hu
  | cons p r ih =>
    intro u hu
    rcases List.mem_cons.1 hu with rfl | hu
    · rfl
    rcases List.mem_cons.1 hu with rfl | hu
    · rfl
    exact ih u hu
theorem fiV_set (l : List Fi) (i : Nat) (f : Fi) : ((fiV l).set (i * 2) (.string ⟨f.data.toArray⟩)).set (i * 2 + 1) (.int .i64 (f.dur : Int)) = fiV (l.set i f) := by
  induction l generalizing i with
  | nil => simp [fiV]
  | cons p r ih =>
    cases i with
    | zero => rfl
    | succ i =>
      rw [show (i + 1) * 2 = i * 2 + 1 + 1 by omega]
      show _ :: _ :: ((fiV r).set (i * 2) _).set (i * 2 + 1) _ = _ :: _ :: fiV (r.set i f)
      rw [ih]
theorem Tryz.info74f : (Tryz.prog.info? 74).map (fun i => (i.zero, i.size, i.bytes)) = some (some (.agg #[.string ByteArray.empty, .int .i64 0]), 2, 24) := by kernel_rfl
def OwnF (w : World) (B : Nat) (v : Value) (l : List Fi) : Prop := w.ownsRow B 74 2 v l.length (fiV l)
theorem ownF_slice {w : World} {B : Nat} {v : Value} {l : List Fi} (h : OwnF w B v l) : ∃ a cap, v = .slice a l.length cap := by
  rcases h.2 with ⟨e, hn⟩ | ⟨g, cap, cur, e, _⟩
  · rw [hn]; exact ⟨none, 0, e⟩
  · exact ⟨_, _, e⟩
theorem ownF_c {w : World} {B : Nat} {v : Value} {l : List Fi} (h : OwnF w B v l) : CellsC (fun k => B ≤ k ∧ k < w.heap.size) w v l.length 2 (fiV l) := own_cells h (fiV_one l)
theorem ownF_empty (w : World) : OwnF (w.alloc (.cells #[] 74)) w.heap.size (.slice (some ⟨w.heap.size, 0, none⟩) 0 0) [] :=
  ⟨rfl, Or.inr ⟨w.heap.size, 0, #[], rfl, Nat.le_refl _, new_five w _ _, Nat.le_refl _, Nat.zero_le _, rfl, rfl⟩⟩
theorem ownF_more {w2 : World} {B n : Nat} {v : Value} {l r : List Fi} (hn : n = l.length + r.length) (h : w2.ownsRow B 74 2 v n (fiV l ++ fiV r)) : OwnF w2 B v (l ++ r) := by
  unfold OwnF
  rw [fiV_append, List.length_append, ← hn]; exact h
theorem srcF_one (w : World) (x : ByteArray) (z : Int) : Src Tryz.prog 2 29 (.slice (some ⟨w.heap.size, 0, none⟩) 1 1) 1 [.string x, .int .i64 z] (w.alloc (.cells #[.string x, .int .i64 z] 74)) :=
  Src.ofSlice _ Tryz.underlying29 _ 1 1 _ rfl (fun j u hj => by
    rw [add_pos, Nat.zero_add, World.cell?_alloc_mark]; simpa using hj) (fun u hu => by
    simp at hu; rcases hu with rfl | rfl <;> rfl)
/-- An element of an owned row of files is stored, in two cells. -/
theorem ownF_set {w : World} {B c : Nat} {a : Option Addr} {l : List Fi} (h : OwnF w B (.slice a l.length c) l) {i : Nat} (hi : i < l.length) :
    ∃ g, a = some ⟨g, 0, none⟩ ∧ B ≤ g ∧ g < w.heap.size ∧ (∀ q, w.frozen? ⟨g, q, none⟩ = false) ∧ (∃ u, w.cell? ⟨g, i * 2, none⟩ = some u) ∧ (∃ u, w.cell? ⟨g, i * 2 + 1, none⟩ = some u) ∧
      ∀ f : Fi, OwnF ((w.setCell ⟨g, i * 2, none⟩ (.string ⟨f.data.toArray⟩)).setCell ⟨g, i * 2 + 1, none⟩ (.int .i64 (f.dur : Int))) B (.slice a l.length c) (l.set i f) := by
  rcases h.2 with ⟨e, hn⟩ | ⟨g, cap, cur, e, hB, hg, h1, h2, h3, h4⟩
  · omega
  · injection e with ea _ ec
    subst ea ec
    refine ⟨g, rfl, hB, (Array.getElem?_eq_some_iff.1 hg).1, frozen_box hg, ?_, ?_, fun f => ⟨by rw [fiV_len], Or.inr ⟨g, c, _, by rw [List.length_set], hB, cells_set (i := i * 2 + 1) (cells_set (i := i * 2) hg _) _, ?_, h2, ?_, ?_⟩⟩⟩
    · exact ⟨cur[i * 2]'(by omega), (cell_of_row _ _ _ _ _ _ hg).trans (by simp [show i * 2 < cur.size by omega])⟩
    · exact ⟨cur[i * 2 + 1]'(by omega), (cell_of_row _ _ _ _ _ _ hg).trans (by simp [show i * 2 + 1 < cur.size by omega])⟩
    · rw [List.length_set]; exact h1
    · simp [h3]
    · rw [List.length_set, Array.toList_setIfInBounds, Array.toList_setIfInBounds, List.take_set, List.take_set, h4, fiV_set]
end Go.Proofs.YtjefcalndfcmdaaGreatDoor
namespace Go.Proofs.YtjefcalndfcmdaaGreatDoor
open Go.RowKit Go.Maps
attribute [local go_sem ↓] Go.wp_at_zero Go.wp_at_succ
theorem three_box2 (w : World) (vf vn vs va : Value) (room steps l : Int) (row : Array Value) (t2 : TypeId) (r : Array Value) :
    FsBox (((w.alloc (.cells (fsV vf vn vs va room steps l) 33)).alloc (.cells row t2)).alloc (.cells r 33)) w.heap.size vf vn vs va room steps l ∧
    (((w.alloc (.cells (fsV vf vn vs va room steps l) 33)).alloc (.cells row t2)).alloc (.cells r 33)).heap[w.heap.size + 1]? = some (.cells row t2 (0, 0)) ∧
    (((w.alloc (.cells (fsV vf vn vs va room steps l) 33)).alloc (.cells row t2)).alloc (.cells r 33)).heap[w.heap.size + 1 + 1]? = some (.cells r 33 (0, 0)) ∧
    Below w.heap.size w (((w.alloc (.cells (fsV vf vn vs va room steps l) 33)).alloc (.cells row t2)).alloc (.cells r 33)) ∧
    (((w.alloc (.cells (fsV vf vn vs va room steps l) 33)).alloc (.cells row t2)).alloc (.cells r 33)).heap.size = w.heap.size + 3 := by
  have h0 := new_five w (fsV vf vn vs va room steps l) 33
  generalize hw1 : w.alloc (.cells (fsV vf vn vs va room steps l) 33) = w1 at *
  have z1 : w1.heap.size = w.heap.size + 1 := by rw [← hw1]; simp
  have h1 := new_five w1 row t2
  have k1 := Below.heap_alloc w1 (.cells row t2) w.heap.size (by omega)
  generalize hw2 : w1.alloc (.cells row t2) = w2 at *
  have z2 : w2.heap.size = w.heap.size + 1 + 1 := by rw [← hw2]; simp; omega
  have h2 := new_five w2 r 33
  rw [z1] at h1
  rw [z2] at h2
  have k2 := Below.heap_alloc w2 (.cells r 33) w.heap.size (by omega)
  have k3 := Below.heap_alloc w2 (.cells r 33) (w.heap.size + 1) (by omega)
  refine ⟨⟨k2.trans (k1.trans h0)⟩, k3.trans h1, h2, ?_, by simp; omega⟩
  rw [← hw2, ← hw1]
  exact (((Below.refl _ w).alloc (Nat.le_refl _) _).alloc (by simp) _).alloc (by simp; omega) _
theorem FsBox.set0 {w : World} {b : Nat} {vf vn vs va : Value} {room steps l : Int} (h : FsBox w b vf vn vs va room steps l) (v : Value) : FsBox (w.setCell ⟨b, 0, none⟩ v) b v vn vs va room steps l := ⟨(cells_set (i := 0) h.blk v).trans rfl⟩
set_option maxRecDepth 100000 in
set_option maxHeartbeats 4000000 in
theorem rput_any (S : Nat → Prop) (af an az aa : Option Addr) (cf cn cs ca : Nat) (room steps l : Int) (s : Fs) (i : Nat) (f : Fi) (w : World) (h : FsR S w (.slice af s.files.length cf) (.slice an s.now.length cn) (.slice az s.sure.length cs) (.slice aa s.acts.length ca) s) (hS : ∀ k, S k → k < w.heap.size)
    (hi : i < s.files.length) (hfl : s.files.length ≤ 1073741824) :
    Calls Tryz.prog 51 #[.agg (fsV (.slice af s.files.length cf) (.slice an s.now.length cn) (.slice az s.sure.length cs) (.slice aa s.acts.length ca) room steps l), .int .i64 (i : Int), .agg #[.string ⟨f.data.toArray⟩, .int .i64 (f.dur : Int)]] w fun e w' => ∃ vf, e = .returned (.agg (fsV vf (.slice an s.now.length cn) (.slice az s.sure.length cs) (.slice aa s.acts.length ca) room steps l)) ∧ FsR (fun k => S k ∨ (w.heap.size ≤ k ∧ k < w'.heap.size)) w' vf (.slice an s.now.length cn) (.slice az s.sure.length cs) (.slice aa s.acts.length ca) { s with files := s.files.set i f } ∧ Below w.heap.size w w' := by
  obtain ⟨data, dur⟩ := f
  have HH := Lib.hid h
  have HS := Lib.hid hS
  obtain ⟨i0, hi0, hz0, hz1, hz2⟩ := info_parts Tryz.info74f
  dsimp only
  clear h hS
  have HT := Lib.hid (three_box2 w (.slice af s.files.length cf) (.slice an s.now.length cn) (.slice az s.sure.length cs) (.slice aa s.acts.length ca) room steps l #[.string ⟨data.toArray⟩, .int .i64 (dur : Int)] 74 (fsV (.slice none 0 0) (.slice none 0 0) (.slice none 0 0) (.slice none 0 0) 0 0 0))
  unfold fsV at HT ⊢
  go_enter Tryz.func51, Tryz.ntmps51
  go_upto_region 1 with fail
  obtain ⟨w4, hw2⟩ : ∃ x, ((w.alloc (.cells #[.slice af s.files.length cf, .slice an s.now.length cn, .slice az s.sure.length cs, .slice aa s.acts.length ca, .int .i64 room, .int .i64 steps, .int .i64 l] 33)).alloc (.cells #[.string ⟨data.toArray⟩, .int .i64 (dur : Int)] 74)).alloc (.cells #[.slice none 0 0, .slice none 0 0, .slice none 0 0, .slice none 0 0, .int .i64 0, .int .i64 0, .int .i64 0] 33) = x := ⟨_, rfl⟩
  rw [hw2] at HT ⊢
  clear hw2
  obtain ⟨hX2, hA2, hR2, hB2, hZ2⟩ := HT.out
  have X4 := Lib.hid hX2
  have A4 := Lib.hid hA2
  have R4 := Lib.hid hR2
  have B4 := Lib.hid hB2
  have Z4 := Lib.hid hZ2
  clear hX2 hA2 hR2 hB2 hZ2 HT
  have HLT : Hid (w.heap.size + 3 ≤ w4.heap.size) := Lib.hid (by have := Z4.out; omega)
  obtain ⟨c3', _, _, _, _, _, _⟩ := (X4.out.kept (Below.heap_alloc w4 (.cells #[] 74) w.heap.size (by have := HLT.out; omega))).cells
  have HO := Lib.hid (ownF_empty w4)
  have SRC : Hid (Src Tryz.prog 2 29 (.slice af s.files.length cf) s.files.length (fiV s.files) (w4.alloc (.cells #[] 74))) := Lib.hid ((CellsC.kept HH.out.files (S' := fun _ => True) (fun k hk => ⟨trivial, (Below.heap_alloc w4 _ k (by have := HS.out k hk; have := HLT.out; omega)).trans (B4.out.block k (HS.out k hk))⟩)).src Tryz.underlying29)
  have BQ := Lib.hid ((Below.refl w4.heap.size w4).alloc (Nat.le_refl _) (.cells #[] 74))
  go_upto_region 2 with (at_builtin; refine wpList_own_src _ rfl _ _ 29 29 rfl w4.heap.size 74 i0 (.agg #[.string ByteArray.empty, .int .i64 0]) 2 24 Tryz.underlying29 hi0 hz0 hz1 hz2 rfl (by decide) _ _ _ rfl HO.out _ s.files.length _ rfl SRC.out (by unfold maxLen; simp; omega) (by simp; omega) (by simp) ?_; intro v5 w5 hown5 hg5)
  have O5 : Hid (OwnF w5 w4.heap.size v5 s.files) := Lib.hid (ownF_more (l := []) (by simp) hown5)
  have B5 : Hid (Below w4.heap.size w4 w5) := Lib.hid (BQ.out.grown hg5.gb (by simp) (fun q hq => Nat.le_of_eq (Option.some.inj hq)))
  clear hown5 hg5 c3'
  obtain ⟨ua, uc, rfl⟩ := ownF_slice O5.out
  obtain ⟨g, rfl, hBg, hgl, hfr, ⟨u1, hu1⟩, ⟨u2, hu2⟩, hset⟩ := ownF_set O5.out hi
  have HSET := Lib.hid (hset ⟨data, dur⟩)
  have HGB : Hid (w4.heap.size ≤ g ∧ g < w5.heap.size) := Lib.hid ⟨hBg, hgl⟩
  have A5 := Lib.hid ((B5.out.block (w.heap.size + 1) (by have := HLT.out; omega)).trans A4.out)
  have d0 : w5.cell? ⟨w.heap.size + 1, 0, none⟩ = some (.string ⟨data.toArray⟩) := (cell_of_row _ _ _ _ _ _ A5.out).trans rfl
  have d1 : w5.cell? ⟨w.heap.size + 1, 1, none⟩ = some (.int .i64 (dur : Int)) := (cell_of_row _ _ _ _ _ _ A5.out).trans rfl
  clear hset hBg hgl
  dsimp only at HSET
  go_upto_region 3 with fail
  have P6 := Lib.hid ((SetP.one w5 g (i * 2) (.string ⟨data.toArray⟩)).trans (SetP.one _ g (i * 2 + 1) (.int .i64 (dur : Int))))
  clear hfr hu1 hu2 d0 d1
  generalize (w5.setCell ⟨g, i * 2, none⟩ (.string ⟨data.toArray⟩)).setCell ⟨g, i * 2 + 1, none⟩ (.int .i64 (dur : Int)) = w6 at *
  have O6 := HSET
  have B6 : Hid (Below w4.heap.size w4 w6) := Lib.hid (P6.out.below _ _ B5.out HGB.out.1)
  have X6 := Lib.hid (X4.out.kept (B6.out.block _ (by have := HLT.out; omega)))
  have R6 := Lib.hid ((B6.out.block (w.heap.size + 1 + 1) (by have := HLT.out; omega)).trans R4.out)
  have ff : w6.frozen? ⟨w.heap.size, 0, none⟩ = false := X6.out.free 0
  obtain ⟨e3, _, _, _, _, _, _⟩ := X6.out.cells
  go_upto_region 4 with fail
  have X7 := Lib.hid (X6.out.set0 (.slice (some ⟨g, 0, none⟩) s.files.length uc))
  have P7 := Lib.hid (SetP.one w6 w.heap.size 0 (.slice (some ⟨g, 0, none⟩) s.files.length uc))
  clear ff e3
  generalize w6.setCell ⟨w.heap.size, 0, none⟩ (.slice (some ⟨g, 0, none⟩) s.files.length uc) = w7 at *
  have B7 : Hid (Below w.heap.size w w7) := Lib.hid (P7.out.below _ _ (B4.out.trans (B6.out.mono (by have := HLT.out; omega))) (Nat.le_refl _))
  have R7 := Lib.hid ((P7.out.far (w.heap.size + 1 + 1) (by omega)).trans R6.out)
  obtain ⟨q0, q1, q2, q3, q4, q5, q6⟩ := X7.out.cells
  have rc := fun (k : Nat) (v : Value) (hv : #[Value.slice none 0 0, .slice none 0 0, .slice none 0 0, .slice none 0 0, .int .i64 0, .int .i64 0, .int .i64 0][k]? = some v) => (cell_of_row w7 (w.heap.size + 1 + 1) k _ _ _ R7.out).trans hv
  have r0 := rc 0 _ rfl
  have r1 := rc 1 _ rfl
  have r2 := rc 2 _ rfl
  have r3 := rc 3 _ rfl
  have r4 := rc 4 _ rfl
  have r5 := rc 5 _ rfl
  have r6 := rc 6 _ rfl
  have fr : ∀ q : Nat, w7.frozen? ⟨w.heap.size + 1 + 1, q, none⟩ = false := frozen_box R7.out
  clear rc
  go_wp2_with fail
  obtain ⟨W, hW⟩ : ∃ x, ((((((w7.setCell ⟨w.heap.size + 1 + 1, 0, none⟩ (.slice (some ⟨g, 0, none⟩) s.files.length uc)).setCell ⟨w.heap.size + 1 + 1, 1, none⟩ (.slice an s.now.length cn)).setCell ⟨w.heap.size + 1 + 1, 2, none⟩ (.slice az s.sure.length cs)).setCell ⟨w.heap.size + 1 + 1, 3, none⟩ (.slice aa s.acts.length ca)).setCell ⟨w.heap.size + 1 + 1, 4, none⟩ (.int .i64 room)).setCell ⟨w.heap.size + 1 + 1, 5, none⟩ (.int .i64 steps)).setCell ⟨w.heap.size + 1 + 1, 6, none⟩ (.int .i64 l) = x := ⟨_, rfl⟩
  rw [hW]
  obtain ⟨hX, hP⟩ := fs_put R7.out _ _ _ _ _ _ _ hW
  have BW := Lib.hid (hP.below w.heap.size w B7.out (by omega))
  have PW := Lib.hid hP
  clear hW hP q0 q1 q2 q3 q4 q5 q6 r0 r1 r2 r3 r4 r5 r6 fr
  obtain ⟨q0, q1, q2, q3, q4, q5, q6⟩ := hX.cells
  clear hX
  refine bodyPost_ret (v := .agg #[.slice (some ⟨g, 0, none⟩) s.files.length uc, .slice an s.now.length cn, .slice az s.sure.length cs, .slice aa s.acts.length ca, .int .i64 room, .int .i64 steps, .int .i64 l]) (by simp [results, Tryz.results51, go_sem, q0, q1, q2, q3, q4, q5, q6]) rfl ⟨_, rfl, ?_, BW.out⟩
  have hzl := HLT.out
  have hz6 := P6.out.size
  have hz7 := P7.out.size
  have hzw := PW.out.size
  have hz5 := B6.out.size
  have hS : ∀ k, S k → (S k ∨ (w.heap.size ≤ k ∧ k < W.heap.size)) ∧ W.heap[k]? = w.heap[k]? := fun k hk => ⟨Or.inl hk, BW.out.block k (HS.out k hk)⟩
  refine ⟨?_, HH.out.now.kept hS, HH.out.sure.kept hS, HH.out.acts.kept hS⟩
  have h := ownF_c (l := s.files.set i ⟨data, dur⟩) O6.out
  exact h.kept (fun k hk => ⟨Or.inr ⟨by omega, by omega⟩, (PW.out.far k (by omega)).trans (P7.out.far k (by omega))⟩)
end Go.Proofs.YtjefcalndfcmdaaGreatDoor
