/- The reference's file system as a value; clamp, Wrong, New, a step. The reference's New. The reference's step. How much the reference has in use. -/
import Derived.Test.YtjefcalndfcmdaaGreatDoorVgD
import Derived.Deep.QuietTactic
namespace Go.Proofs.YtjefcalndfcmdaaGreatDoor
open Go.RowKit Go.Maps
attribute [local go_sem ↓] Go.wp_at_zero Go.wp_at_succ
def fiV : List Fi → List Value
  | [] => []
  | f :: r => .string ⟨f.data.toArray⟩ :: .int .i64 (f.dur : Int) :: fiV r
def acR : List Ac → List Value
  | [] => []
  | a :: r => .string ⟨a.gone.toArray⟩ :: .string ⟨a.come.toArray⟩ :: .int .i64 (acI a) :: acR r
/-- What the reference keeps of the steps left: no number below -1. -/
def lim (s : Fs) : Int := if s.more < -1 then -1 else s.more
def fsV (vf vn vs va : Value) (room steps l : Int) : Array Value := #[vf, vn, vs, va, .int .i64 room, .int .i64 steps, .int .i64 l]
structure FsR (S : Nat → Prop) (w : World) (vf vn vs va : Value) (s : Fs) : Prop where
  files : CellsC S w vf s.files.length 2 (fiV s.files)
  now : NmC S w vn s.now
  sure : NmC S w vs s.sure
  acts : CellsC S w va s.acts.length 3 (acR s.acts)
theorem FsR.kept {S S' : Nat → Prop} {w w' : World} {vf vn vs va : Value} {s : Fs} (h : FsR S w vf vn vs va s) (hk : ∀ k, S k → S' k ∧ w'.heap[k]? = w.heap[k]?) : FsR S' w' vf vn vs va s := ⟨h.files.kept hk, h.now.kept hk, h.sure.kept hk, h.acts.kept hk⟩
set_option maxRecDepth 100000 in
theorem rclamp_any (n : Int) (mm : Nat) (w : World) : Calls Tryz.prog 53 #[.int .i64 n, .int .i64 (mm : Int)] w fun e w' => e = .returned (.int .i64 (clampI n mm : Int)) ∧ w' = w := by
  obtain ⟨m, hm⟩ : ∃ m : Int, (mm : Int) = m := ⟨_, rfl⟩
  rw [hm]
  obtain ⟨R, hR⟩ : ∃ R : Int, (clampI n mm : Int) = R := ⟨_, rfl⟩
  have HV : Hid (R = if n < 0 then 0 else if m < n then m else n) := Lib.hid (by rw [← hR, ← hm]; unfold clampI; split <;> (try split) <;> omega)
  rw [hR]
  clear hR hm
  by_cases h0 : n < 0
  · have y0 : decide (n < 0) = true := decide_eq_true h0
    have HR : Hid (R = 0) := Lib.hid (by rw [HV.out, if_pos h0])
    clear h0
    go_enter Tryz.func53, Tryz.ntmps53
    go_wp2_with fail
    go_ret
    exact ⟨by rw [HR.out]; first | done | rfl, rfl⟩
  · have y0 : decide (n < 0) = false := decide_eq_false h0
    by_cases h1 : m < n
    · have y1 : decide (n > m) = true := decide_eq_true h1
      have y2 : decide (m < n) = true := decide_eq_true h1
      have HR : Hid (R = m) := Lib.hid (by rw [HV.out, if_neg h0, if_pos h1])
      clear h0
      go_enter Tryz.func53, Tryz.ntmps53
      go_wp2_with fail
      go_ret
      exact ⟨by rw [HR.out]; first | done | rfl, rfl⟩
    · have y1 : decide (n > m) = false := decide_eq_false h1
      have y2 : decide (m < n) = false := decide_eq_false h1
      have HR : Hid (R = n) := Lib.hid (by rw [HV.out, if_neg h0, if_neg h1])
      clear h0
      go_enter Tryz.func53, Tryz.ntmps53
      go_wp2_with fail
      go_ret
      exact ⟨by rw [HR.out]; first | done | rfl, rfl⟩
end Go.Proofs.YtjefcalndfcmdaaGreatDoor
namespace Go.Proofs.YtjefcalndfcmdaaGreatDoor
open Go.RowKit Go.Maps
attribute [local go_sem ↓] Go.wp_at_zero Go.wp_at_succ
/-- A file system's value in a box of its own. -/
structure FsBox (w : World) (b : Nat) (vf vn vs va : Value) (room steps l : Int) : Prop where
  blk : w.heap[b]? = some (.cells (fsV vf vn vs va room steps l) 33 (0, 0))
theorem FsBox.cells {w : World} {b : Nat} {vf vn vs va : Value} {room steps l : Int} (h : FsBox w b vf vn vs va room steps l) : w.cell? ⟨b, 0, none⟩ = some vf ∧ w.cell? ⟨b, 1, none⟩ = some vn ∧ w.cell? ⟨b, 2, none⟩ = some vs ∧ w.cell? ⟨b, 3, none⟩ = some va ∧ w.cell? ⟨b, 4, none⟩ = some (.int .i64 room) ∧ w.cell? ⟨b, 5, none⟩ = some (.int .i64 steps) ∧ w.cell? ⟨b, 6, none⟩ = some (.int .i64 l) :=
  ⟨(cell_of_row _ _ _ _ _ _ h.blk).trans rfl, (cell_of_row _ _ _ _ _ _ h.blk).trans rfl, (cell_of_row _ _ _ _ _ _ h.blk).trans rfl, (cell_of_row _ _ _ _ _ _ h.blk).trans rfl, (cell_of_row _ _ _ _ _ _ h.blk).trans rfl, (cell_of_row _ _ _ _ _ _ h.blk).trans rfl, (cell_of_row _ _ _ _ _ _ h.blk).trans rfl⟩
theorem FsBox.free {w : World} {b : Nat} {vf vn vs va : Value} {room steps l : Int} (h : FsBox w b vf vn vs va room steps l) (q : Nat) : w.frozen? ⟨b, q, none⟩ = false := by unfold World.frozen?; rw [h.blk]; simp
set_option maxRecDepth 100000 in
theorem rnew_any (room : Int) (w : World) : Calls Tryz.prog 10 #[.int .i64 room] w fun e w' => e = .returned (.agg (fsV (.slice none 0 0) (.slice none 0 0) (.slice none 0 0) (.slice none 0 0) room 0 (-1))) ∧ Below w.heap.size w w' := by
  go_enter Tryz.func10, Tryz.ntmps10
  go_wp2_with fail
  have HX : FsBox (w.alloc (.cells (fsV (.slice none 0 0) (.slice none 0 0) (.slice none 0 0) (.slice none 0 0) room 0 (-1)) 33)) w.heap.size (.slice none 0 0) (.slice none 0 0) (.slice none 0 0) (.slice none 0 0) room 0 (-1) := ⟨new_five w _ _⟩
  have HB := Lib.hid ((Below.refl w.heap.size w).alloc (Nat.le_refl _) (.cells (fsV (.slice none 0 0) (.slice none 0 0) (.slice none 0 0) (.slice none 0 0) room 0 (-1)) 33))
  obtain ⟨c0, c1, c2, c3, c4, c5, c6⟩ := HX.cells
  unfold fsV at c0 c1 c2 c3 c4 c5 c6 HB
  clear HX
  generalize w.alloc (.cells #[.slice none 0 0, .slice none 0 0, .slice none 0 0, .slice none 0 0, .int .i64 room, .int .i64 0, .int .i64 (-1)] 33) = w2 at *
  exact bodyPost_ret (v := .agg (fsV (.slice none 0 0) (.slice none 0 0) (.slice none 0 0) (.slice none 0 0) room 0 (-1))) (by simp [results, Tryz.results10, go_sem, c0, c1, c2, c3, c4, c5, c6, fsV]) rfl ⟨rfl, HB.out⟩
end Go.Proofs.YtjefcalndfcmdaaGreatDoor
namespace Go.Proofs.YtjefcalndfcmdaaGreatDoor
open Go.RowKit Go.Maps
attribute [local go_sem ↓] Go.wp_at_zero Go.wp_at_succ
theorem two_box (w : World) (o : Obj) (vf vn vs va : Value) (room steps l : Int) : FsBox ((w.alloc o).alloc (.cells (fsV vf vn vs va room steps l) 33)) (w.heap.size + 1) vf vn vs va room steps l ∧ Below w.heap.size w ((w.alloc o).alloc (.cells (fsV vf vn vs va room steps l) 33)) := by
  refine ⟨⟨?_⟩, ((Below.refl _ w).alloc (Nat.le_refl _) o).alloc (by simp) _⟩
  have h := new_five (w.alloc o) (fsV vf vn vs va room steps l) 33
  rw [show (w.alloc o).heap.size = w.heap.size + 1 by simp] at h
  exact h
theorem rstep_cut (af an az aa : Option Addr) (nf cf nn cn ns cs na ca : Nat) (room : Int) (steps : Nat) (w : World) :
    Calls Tryz.prog 49 #[.agg (fsV (.slice af nf cf) (.slice an nn cn) (.slice az ns cs) (.slice aa na ca) room (steps : Int) 0)] w fun e w' => e = .returned (.tuple #[.agg (fsV (.slice af nf cf) (.slice an nn cn) (.slice az ns cs) (.slice aa na ca) room (steps : Int) 0), .int .i64 190]) ∧ Below w.heap.size w w' := by
  unfold fsV
  go_enter Tryz.func49, Tryz.ntmps49
  go_wp2_with fail
  obtain ⟨HX, hb⟩ := two_box w (.cells (fsV (.slice af nf cf) (.slice an nn cn) (.slice az ns cs) (.slice aa na ca) room (steps : Int) 0) 33) (.slice af nf cf) (.slice an nn cn) (.slice az ns cs) (.slice aa na ca) room (steps : Int) 0
  obtain ⟨c0, c1, c2, c3, c4, c5, c6⟩ := HX.cells
  have HB := Lib.hid hb
  unfold fsV at c0 c1 c2 c3 c4 c5 c6 HB
  clear HX hb
  generalize (w.alloc (.cells #[.slice af nf cf, .slice an nn cn, .slice az ns cs, .slice aa na ca, .int .i64 room, .int .i64 (steps : Int), .int .i64 0] 33)).alloc (.cells #[.slice af nf cf, .slice an nn cn, .slice az ns cs, .slice aa na ca, .int .i64 room, .int .i64 (steps : Int), .int .i64 0] 33) = w2 at *
  exact bodyPost_ret (v := .tuple #[.agg #[.slice af nf cf, .slice an nn cn, .slice az ns cs, .slice aa na ca, .int .i64 room, .int .i64 (steps : Int), .int .i64 0], .int .i64 190]) (by simp [results, Tryz.results49, go_sem, c0, c1, c2, c3, c4, c5, c6]) rfl ⟨rfl, HB.out⟩
theorem rstep_ok (af an az aa : Option Addr) (nf cf nn cn ns cs na ca : Nat) (room : Int) (steps : Nat) (l : Int) (hs : steps ≤ 16777216) (hl : -1 ≤ l ∧ l ≤ 9223372036854775807) (h0 : l ≠ 0) (w : World) :
    Calls Tryz.prog 49 #[.agg (fsV (.slice af nf cf) (.slice an nn cn) (.slice az ns cs) (.slice aa na ca) room (steps : Int) l)] w fun e w' => e = .returned (.tuple #[.agg (fsV (.slice af nf cf) (.slice an nn cn) (.slice az ns cs) (.slice aa na ca) room ((steps + 1 : Nat) : Int) (if 0 < l then l - 1 else l)), .int .i64 0]) ∧ Below w.heap.size w w' := by
  unfold fsV
  have y0 : (l == 0) = false := beq_eq_false_iff_ne.2 h0
  by_cases hp : 0 < l
  · have y1 : decide (l > 0) = true := decide_eq_true hp
    have y2 : decide (0 < l) = true := decide_eq_true hp
    rw [if_pos hp]
    go_enter Tryz.func49, Tryz.ntmps49
    go_wp2_with fail
    obtain ⟨HX, hb⟩ := two_box w (.cells (fsV (.slice af nf cf) (.slice an nn cn) (.slice az ns cs) (.slice aa na ca) room ((steps : Int) + 1) (l - 1)) 33) (.slice af nf cf) (.slice an nn cn) (.slice az ns cs) (.slice aa na ca) room ((steps : Int) + 1) (l - 1)
    obtain ⟨c0, c1, c2, c3, c4, c5, c6⟩ := HX.cells
    have HB := Lib.hid hb
    unfold fsV at c0 c1 c2 c3 c4 c5 c6 HB
    clear HX hb
    generalize (w.alloc (.cells #[.slice af nf cf, .slice an nn cn, .slice az ns cs, .slice aa na ca, .int .i64 room, .int .i64 ((steps : Int) + 1), .int .i64 (l - 1)] 33)).alloc (.cells #[.slice af nf cf, .slice an nn cn, .slice az ns cs, .slice aa na ca, .int .i64 room, .int .i64 ((steps : Int) + 1), .int .i64 (l - 1)] 33) = w2 at *
    exact bodyPost_ret (v := .tuple #[.agg #[.slice af nf cf, .slice an nn cn, .slice az ns cs, .slice aa na ca, .int .i64 room, .int .i64 ((steps : Int) + 1), .int .i64 (l - 1)], .int .i64 0]) (by simp [results, Tryz.results49, go_sem, c0, c1, c2, c3, c4, c5, c6]) rfl ⟨rfl, HB.out⟩
  · have y1 : decide (l > 0) = false := decide_eq_false hp
    have y2 : decide (0 < l) = false := decide_eq_false hp
    rw [if_neg hp]
    go_enter Tryz.func49, Tryz.ntmps49
    go_wp2_with fail
    obtain ⟨HX, hb⟩ := two_box w (.cells (fsV (.slice af nf cf) (.slice an nn cn) (.slice az ns cs) (.slice aa na ca) room ((steps : Int) + 1) l) 33) (.slice af nf cf) (.slice an nn cn) (.slice az ns cs) (.slice aa na ca) room ((steps : Int) + 1) l
    obtain ⟨c0, c1, c2, c3, c4, c5, c6⟩ := HX.cells
    have HB := Lib.hid hb
    unfold fsV at c0 c1 c2 c3 c4 c5 c6 HB
    clear HX hb
    generalize (w.alloc (.cells #[.slice af nf cf, .slice an nn cn, .slice az ns cs, .slice aa na ca, .int .i64 room, .int .i64 ((steps : Int) + 1), .int .i64 l] 33)).alloc (.cells #[.slice af nf cf, .slice an nn cn, .slice az ns cs, .slice aa na ca, .int .i64 room, .int .i64 ((steps : Int) + 1), .int .i64 l] 33) = w2 at *
    exact bodyPost_ret (v := .tuple #[.agg #[.slice af nf cf, .slice an nn cn, .slice az ns cs, .slice aa na ca, .int .i64 room, .int .i64 ((steps : Int) + 1), .int .i64 l], .int .i64 0]) (by simp [results, Tryz.results49, go_sem, c0, c1, c2, c3, c4, c5, c6]) rfl ⟨rfl, HB.out⟩
end Go.Proofs.YtjefcalndfcmdaaGreatDoor
namespace Go.Proofs.YtjefcalndfcmdaaGreatDoor
open Go.RowKit Go.Maps
attribute [local go_sem ↓] Go.wp_at_zero Go.wp_at_succ
theorem fiV_len (l : List Fi) : (fiV l).length = l.length * 2 := by
  induction l with
  | nil => rfl
  | cons p r ih => show (fiV r).length + 1 + 1 = (r.length + 1) * 2; omega
theorem fiV_at {l : List Fi} {k : Nat} (h : k < l.length) : (fiV l)[k * 2]? = some (.string ⟨(l.getD k noFi).data.toArray⟩) ∧ (fiV l)[k * 2 + 1]? = some (.int .i64 ((l.getD k noFi).dur : Int)) := by
  induction l generalizing k with
  | nil => cases h
  | cons p r ih =>
    cases k with
    | zero => exact ⟨rfl, rfl⟩
    | succ k =>
      have h1 := ih (k := k) (by simpa using h)
      rw [show (k + 1) * 2 = k * 2 + 1 + 1 by omega]
      exact h1
theorem usedD_append (fs : List Fi) (a b : Dir) : usedD fs (a ++ b) = usedD fs a + usedD fs b := by
  induction a with
  | nil => show usedD fs b = 0 + _; omega
  | cons p r ih => show (fs.getD p.2 noFi).data.length + usedD fs (r ++ b) = (fs.getD p.2 noFi).data.length + usedD fs r + usedD fs b; omega
theorem usedD_snoc (fs : List Fi) {l : Dir} {k : Nat} (h : k < l.length) : usedD fs (l.take (k + 1)) = usedD fs (l.take k) + (fs.getD (l.getD k ([], 0)).2 noFi).data.length := by
  rw [take_snoc h (d := ([], 0)), usedD_append]
  rfl
theorem usedD_take (fs : List Fi) (l : Dir) (k : Nat) : usedD fs (l.take k) ≤ usedD fs l := by
  have h := usedD_append fs (l.take k) (l.drop k)
  rw [List.take_append_drop] at h
  omega
theorem one_box (w : World) (vf vn vs va : Value) (room steps l : Int) : FsBox (w.alloc (.cells (fsV vf vn vs va room steps l) 33)) w.heap.size vf vn vs va room steps l ∧ Below w.heap.size w (w.alloc (.cells (fsV vf vn vs va room steps l) 33)) :=
  ⟨⟨new_five w _ _⟩, (Below.refl _ w).alloc (Nat.le_refl _) _⟩
set_option maxRecDepth 100000 in
set_option maxHeartbeats 4000000 in
theorem rused_any (S : Nat → Prop) (af an az aa : Option Addr) (cf cn cs ca : Nat) (room steps l : Int) (s : Fs) (w : World) (h : FsR S w (.slice af s.files.length cf) (.slice an s.now.length cn) (.slice az s.sure.length cs) (.slice aa s.acts.length ca) s) (hS : ∀ k, S k → k < w.heap.size)
    (hu : used s ≤ 70368744177664) (hi : ∀ p ∈ s.now, p.2 < s.files.length) (hnl : s.now.length ≤ 4194304) (hfl : s.files.length ≤ 1073741824) :
    Calls Tryz.prog 36 #[.agg (fsV (.slice af s.files.length cf) (.slice an s.now.length cn) (.slice az s.sure.length cs) (.slice aa s.acts.length ca) room steps l)] w fun e w' => e = .returned (.int .i64 (used s : Int)) ∧ Below w.heap.size w w' := by
  obtain ⟨hX, hb⟩ := one_box w (.slice af s.files.length cf) (.slice an s.now.length cn) (.slice az s.sure.length cs) (.slice aa s.acts.length ca) room steps l
  have HF := Lib.hid h.files
  have HN := Lib.hid h.now
  have HS := Lib.hid hS
  have HI := Lib.hid hi
  have HU := Lib.hid hu
  have HX := Lib.hid hX
  have HB := Lib.hid hb
  unfold fsV at HX HB ⊢
  clear h hS hi hu hX hb
  go_enter Tryz.func36, Tryz.ntmps36
  go_upto_region 1 with fail
  obtain ⟨w2, hw2⟩ : ∃ x, w.alloc (.cells #[.slice af s.files.length cf, .slice an s.now.length cn, .slice az s.sure.length cs, .slice aa s.acts.length ca, .int .i64 room, .int .i64 steps, .int .i64 l] 33) = x := ⟨_, rfl⟩
  rw [hw2] at HX HB ⊢
  have HZ : Hid (w2.heap.size = w.heap.size + 1) := Lib.hid (by rw [← hw2]; simp)
  clear hw2
  go_wp2_with fail
  go_loopw [3, 4] (fun a i wr => ∃ k : Nat, k ≤ s.now.length ∧ a = .int .i64 (usedD s.files (s.now.take k) : Int) ∧ i = .int .i64 (k : Int) ∧ Hid (Below w2.heap.size w2 wr)) (fun _ i _ => s.now.length - (intOf i).toNat)
  case atStart => exact ⟨0, Nat.zero_le _, rfl, rfl, Lib.hid (Below.refl _ _)⟩
  case round =>
    obtain ⟨k, hk, rfl, rfl, hW⟩ := hrel
    have hXr : FsBox wr w.heap.size (.slice af s.files.length cf) (.slice an s.now.length cn) (.slice az s.sure.length cs) (.slice aa s.acts.length ca) room steps l := ⟨(hW.out.block _ (by have := HZ.out; omega)).trans HX.out.blk⟩
    obtain ⟨b0, b1, _, _, _, _, _⟩ := hXr.cells
    clear hXr
    by_cases hlt : k < s.now.length
    · have HSN := Lib.hid (usedD_snoc s.files hlt)
      have HTK := Lib.hid (usedD_take s.files s.now (k + 1))
      obtain ⟨g1, o1, rfl, hSg, _, _, hat⟩ := CellsC.at HN.out (by omega)
      have hc := nmV_at hlt
      have c1 : wr.cell? ⟨g1, o1 + k * 2 + 1, none⟩ = some (.int .i64 ((s.now.getD k ([], 0)).2 : Int)) := (hW.out.cell (p := ⟨g1, o1 + k * 2 + 1, none⟩) (by have := HS.out _ hSg; have := HZ.out; show g1 < _; omega)).trans ((HB.out.cell (p := ⟨g1, o1 + k * 2 + 1, none⟩) (HS.out _ hSg)).trans (hat _ _ hc.2))
      have hpi : (s.now.getD k ([], 0)).2 < s.files.length := HI.out _ (by rw [getD_at hlt]; exact List.getElem_mem _)
      clear hat hc hSg
      obtain ⟨i, hii⟩ : ∃ q, (s.now.getD k ([], 0)).2 = q := ⟨_, rfl⟩
      rw [hii] at c1 hpi HSN
      clear hii
      obtain ⟨g2, o2, rfl, hSg, _, _, hat⟩ := CellsC.at HF.out (by omega)
      have hc := fiV_at hpi
      have c2 : wr.cell? ⟨g2, o2 + i * 2, none⟩ = some (.string ⟨(s.files.getD i noFi).data.toArray⟩) := (hW.out.cell (p := ⟨g2, o2 + i * 2, none⟩) (by have := HS.out _ hSg; have := HZ.out; show g2 < _; omega)).trans ((HB.out.cell (p := ⟨g2, o2 + i * 2, none⟩) (HS.out _ hSg)).trans (hat _ _ hc.1))
      clear hat hc hSg
      obtain ⟨d, hd⟩ : ∃ q, (s.files.getD i noFi).data = q := ⟨_, rfl⟩
      rw [hd] at c2 HSN
      clear hd
      obtain ⟨u, hu⟩ : ∃ q, usedD s.files (s.now.take k) = q := ⟨_, rfl⟩
      rw [hu] at HSN ⊢
      have hbu : u + d.length ≤ 70368744177664 := by have h1 := HSN.out; have h2 := HTK.out; have h3 := HU.out; unfold used at h3; omega
      clear hu
      go_wp2_with fail
      have hw1 : IntKind.i64.wrap ((u : Int) + (d.length : Int)) = (u : Int) + (d.length : Int) := IntWalk.i64_in _ (by omega)
      go_quiet (fail)
      have W2 : Hid (Below w2.heap.size w2 (wr.drewN nq)) := Lib.hid (hW.out.trans (drewn w2.heap.size wr nq))
      clear b0 b1 c1 c2 hW
      generalize wr.drewN nq = wq at *
      go_wp2_with fail
      exact ⟨⟨k + 1, by omega, by rw [HSN.out]; go_num, by go_num, W2⟩, by simp [intOf]; omega⟩
    · go_wp2_with fail
      go_ret
      have e : k = s.now.length := by omega
      refine ⟨?_, HB.out.trans (hW.out.mono (by have := HZ.out; omega))⟩
      rw [e, List.take_length]
      rfl
end Go.Proofs.YtjefcalndfcmdaaGreatDoor
