/- A call of the reference that works on its own copy of a file system: the copy's box, and behind it the result's. -/
import Derived.Test.YtjefcalndfcmdaaGreatDoorVgJL
namespace Go.Proofs.YtjefcalndfcmdaaGreatDoor
open Go.RowKit Go.Maps
def zrow : Array Value := #[.slice none 0 0, .slice none 0 0, .slice none 0 0, .slice none 0 0, .int .i64 0, .int .i64 0, .int .i64 0]
/-- Within a call: its copy's box stands first of what is new, the result's box second. -/
structure Fr (w W : World) (vf vn vs va : Value) (room steps l : Int) : Prop where
  box : FsBox W w.heap.size vf vn vs va room steps l
  res : W.heap[w.heap.size + 1]? = some (.cells zrow 33 (0, 0))
  below : Below w.heap.size w W
  lt : w.heap.size + 2 ≤ W.heap.size
theorem Fr.make (w : World) (vf vn vs va : Value) (room steps l : Int) : Fr w ((w.alloc (.cells (fsV vf vn vs va room steps l) 33)).alloc (.cells zrow 33)) vf vn vs va room steps l := by
  have h0 := new_five w (fsV vf vn vs va room steps l) 33
  have hb := (Below.refl w.heap.size w).alloc (Nat.le_refl _) (.cells (fsV vf vn vs va room steps l) 33)
  have z1 : (w.alloc (.cells (fsV vf vn vs va room steps l) 33)).heap.size = w.heap.size + 1 := by simp
  generalize w.alloc (.cells (fsV vf vn vs va room steps l) 33) = w1 at *
  have h1 := new_five w1 zrow 33
  rw [z1] at h1
  exact ⟨⟨(Below.heap_alloc w1 _ w.heap.size (by omega)).trans h0⟩, h1, hb.alloc (by omega) _, by simp; omega⟩
theorem Fr.call {w W W' : World} {vf vn vs va : Value} {room steps l : Int} (h : Fr w W vf vn vs va room steps l) (hb : Below W.heap.size W W') : Fr w W' vf vn vs va room steps l :=
  ⟨h.box.kept (hb.block _ (by have := h.lt; omega)), (hb.block _ (by have := h.lt; omega)).trans h.res, h.below.trans (hb.mono (by have := h.lt; omega)), Nat.le_trans h.lt hb.size⟩
theorem Fr.drew {w W : World} {vf vn vs va : Value} {room steps l : Int} (h : Fr w W vf vn vs va room steps l) (n : Nat) : Fr w (W.drewN n) vf vn vs va room steps l := h.call (drewn _ _ n)
/-- The box written as a whole. -/
theorem Fr.put {w W W' : World} {vf vn vs va : Value} {room steps l : Int} (h : Fr w W vf vn vs va room steps l) {vf' vn' vs' va' : Value} {room' steps' l' : Int}
    (hW : ((((((W.setCell ⟨w.heap.size, 0, none⟩ vf').setCell ⟨w.heap.size, 1, none⟩ vn').setCell ⟨w.heap.size, 2, none⟩ vs').setCell ⟨w.heap.size, 3, none⟩ va').setCell ⟨w.heap.size, 4, none⟩ (.int .i64 room')).setCell ⟨w.heap.size, 5, none⟩ (.int .i64 steps')).setCell ⟨w.heap.size, 6, none⟩ (.int .i64 l') = W') :
    Fr w W' vf' vn' vs' va' room' steps' l' ∧ SetP w.heap.size W W' := by
  have hb := h.box.blk
  unfold fsV at hb
  obtain ⟨h1, h2⟩ := fs_put hb vf' vn' vs' va' room' steps' l' hW
  exact ⟨⟨h1, (h2.far _ (by omega)).trans h.res, h2.below _ _ h.below (Nat.le_refl _), by rw [h2.size]; exact h.lt⟩, h2⟩
/-- The result's box written. -/
theorem Fr.fin {w W W' : World} {vf vn vs va : Value} {room steps l : Int} (h : Fr w W vf vn vs va room steps l) {vf' vn' vs' va' : Value} {room' steps' l' : Int}
    (hW : ((((((W.setCell ⟨w.heap.size + 1, 0, none⟩ vf').setCell ⟨w.heap.size + 1, 1, none⟩ vn').setCell ⟨w.heap.size + 1, 2, none⟩ vs').setCell ⟨w.heap.size + 1, 3, none⟩ va').setCell ⟨w.heap.size + 1, 4, none⟩ (.int .i64 room')).setCell ⟨w.heap.size + 1, 5, none⟩ (.int .i64 steps')).setCell ⟨w.heap.size + 1, 6, none⟩ (.int .i64 l') = W') :
    FsBox W' (w.heap.size + 1) vf' vn' vs' va' room' steps' l' ∧ SetP (w.heap.size + 1) W W' ∧ Below w.heap.size w W' := by
  have hb := h.res
  unfold zrow at hb
  obtain ⟨h1, h2⟩ := fs_put hb vf' vn' vs' va' room' steps' l' hW
  exact ⟨h1, h2, h2.below _ _ h.below (by omega)⟩
/-- One cell of the box written. -/
theorem Fr.one {w W : World} {vf vn vs va : Value} {room steps l : Int} (h : Fr w W vf vn vs va room steps l) (i : Nat) (v : Value) {vf' vn' vs' va' : Value} {room' steps' l' : Int} (e : (fsV vf vn vs va room steps l).setIfInBounds i v = fsV vf' vn' vs' va' room' steps' l') :
    Fr w (W.setCell ⟨w.heap.size, i, none⟩ v) vf' vn' vs' va' room' steps' l' ∧ SetP w.heap.size W (W.setCell ⟨w.heap.size, i, none⟩ v) := by
  have h2 := SetP.one W w.heap.size i v
  refine ⟨⟨⟨?_⟩, (h2.far _ (by omega)).trans h.res, h2.below _ _ h.below (Nat.le_refl _), by rw [h2.size]; exact h.lt⟩, h2⟩
  have h3 := cells_set (i := i) h.box.blk v
  rw [e] at h3
  exact h3
theorem Fr.cells {w W : World} {vf vn vs va : Value} {room steps l : Int} (h : Fr w W vf vn vs va room steps l) :
    W.cell? ⟨w.heap.size, 0, none⟩ = some vf ∧ W.cell? ⟨w.heap.size, 1, none⟩ = some vn ∧ W.cell? ⟨w.heap.size, 2, none⟩ = some vs ∧ W.cell? ⟨w.heap.size, 3, none⟩ = some va ∧ W.cell? ⟨w.heap.size, 4, none⟩ = some (.int .i64 room) ∧ W.cell? ⟨w.heap.size, 5, none⟩ = some (.int .i64 steps) ∧ W.cell? ⟨w.heap.size, 6, none⟩ = some (.int .i64 l) := h.box.cells
theorem Fr.rcells {w W : World} {vf vn vs va : Value} {room steps l : Int} (h : Fr w W vf vn vs va room steps l) :
    W.cell? ⟨w.heap.size + 1, 0, none⟩ = some (.slice none 0 0) ∧ W.cell? ⟨w.heap.size + 1, 1, none⟩ = some (.slice none 0 0) ∧ W.cell? ⟨w.heap.size + 1, 2, none⟩ = some (.slice none 0 0) ∧ W.cell? ⟨w.heap.size + 1, 3, none⟩ = some (.slice none 0 0) ∧ W.cell? ⟨w.heap.size + 1, 4, none⟩ = some (.int .i64 0) ∧ W.cell? ⟨w.heap.size + 1, 5, none⟩ = some (.int .i64 0) ∧ W.cell? ⟨w.heap.size + 1, 6, none⟩ = some (.int .i64 0) := by
  have rc := fun (k : Nat) (v : Value) (hv : zrow[k]? = some v) => (cell_of_row W (w.heap.size + 1) k _ _ _ h.res).trans hv
  exact ⟨rc 0 _ rfl, rc 1 _ rfl, rc 2 _ rfl, rc 3 _ rfl, rc 4 _ rfl, rc 5 _ rfl, rc 6 _ rfl⟩
theorem Fr.free {w W : World} {vf vn vs va : Value} {room steps l : Int} (h : Fr w W vf vn vs va room steps l) (q : Nat) : W.frozen? ⟨w.heap.size, q, none⟩ = false := h.box.free q
theorem Fr.rfree {w W : World} {vf vn vs va : Value} {room steps l : Int} (h : Fr w W vf vn vs va room steps l) (q : Nat) : W.frozen? ⟨w.heap.size + 1, q, none⟩ = false := frozen_box h.res q
theorem lim_tick (s : Fs) : lim (tick s) = if 0 < lim s then lim s - 1 else lim s := by
  unfold lim tick
  dsimp only
  by_cases h : 0 < s.more
  · rw [if_pos h]
    repeat' split
    all_goals omega
  · rw [if_neg h]
    repeat' split
    all_goals omega
theorem lim_zero (s : Fs) : lim s = 0 ↔ s.more = 0 := by unfold lim; split <;> omega
theorem lim_lo (s : Fs) : -1 ≤ lim s := by unfold lim; split <;> omega
theorem lim_hi {s : Fs} (h : s.more ≤ 9223372036854775807) : lim s ≤ 9223372036854775807 := by unfold lim; split <;> omega
/-- A reference's file system as a value, its four rows in S. -/
structure FsV (S : Nat → Prop) (w : World) (v : Value) (s : Fs) : Prop where
  ex : ∃ vf vn vs va, v = .agg (fsV vf vn vs va (s.room : Int) (s.steps : Int) (lim s)) ∧ FsR S w vf vn vs va s
theorem FsV.kept {S S' : Nat → Prop} {w w' : World} {v : Value} {s : Fs} (h : FsV S w v s) (hk : ∀ k, S k → S' k ∧ w'.heap[k]? = w.heap[k]?) : FsV S' w' v s := by
  obtain ⟨vf, vn, vs, va, e, h⟩ := h.ex
  exact ⟨vf, vn, vs, va, e, h.kept hk⟩
/-- Its rows are slices. -/
theorem FsV.shape {S : Nat → Prop} {w : World} {v : Value} {s : Fs} (h : FsV S w v s) : ∃ af an az aa cf cn cs ca, v = .agg (fsV (.slice af s.files.length cf) (.slice an s.now.length cn) (.slice az s.sure.length cs) (.slice aa s.acts.length ca) (s.room : Int) (s.steps : Int) (lim s)) ∧ FsR S w (.slice af s.files.length cf) (.slice an s.now.length cn) (.slice az s.sure.length cs) (.slice aa s.acts.length ca) s := by
  obtain ⟨vf, vn, vs, va, e, h⟩ := h.ex
  obtain ⟨af, cf, rfl⟩ := CellsC.shape h.files
  obtain ⟨an, cn, rfl⟩ := CellsC.shape h.now
  obtain ⟨az, cs, rfl⟩ := CellsC.shape h.sure
  obtain ⟨aa, ca, rfl⟩ := CellsC.shape h.acts
  exact ⟨af, an, az, aa, cf, cn, cs, ca, e, h⟩
/-- What a call leaves: an answer, a file system of old and new rows. -/
def RP (S : Nat → Prop) (w : World) (s : Fs) (code : Int) (e : Ending) (w' : World) : Prop :=
  ∃ v, e = .returned (.tuple #[v, .int .i64 code]) ∧ FsV (fun k => S k ∨ (w.heap.size ≤ k ∧ k < w'.heap.size)) w' v s ∧ Below w.heap.size w w'
def RV (S : Nat → Prop) (w : World) (s : Fs) (e : Ending) (w' : World) : Prop :=
  ∃ v, e = .returned v ∧ FsV (fun k => S k ∨ (w.heap.size ≤ k ∧ k < w'.heap.size)) w' v s ∧ Below w.heap.size w w'
/-- The bounds that all of the reference's walks want. -/
structure Bd (s : Fs) : Prop where
  ok : FsOk s
  st : s.steps ≤ 4194300
  fl : s.files.length ≤ s.steps
end Go.Proofs.YtjefcalndfcmdaaGreatDoor
