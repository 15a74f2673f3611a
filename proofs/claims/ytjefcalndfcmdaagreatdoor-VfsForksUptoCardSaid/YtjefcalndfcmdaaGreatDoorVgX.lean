/- One call at both: what it makes of the files; the frame of the laws' step. -/
import Derived.Test.YtjefcalndfcmdaaGreatDoorVgW
namespace Go.Proofs.YtjefcalndfcmdaaGreatDoor
open Go.RowKit Go.Maps
structure OpL where
  kind : Int
  name : Nm
  dest : Nm
  data : List UInt8
  n : Int
  m : Int
def opS (s : Fs) (o : OpL) : Fs × Int :=
  if o.kind = 0 then createS s o.name
  else if o.kind = 1 then appendS s o.name o.data
  else if o.kind = 2 then cutS s o.name o.n
  else if o.kind = 3 then syncS s o.name
  else if o.kind = 4 then renameS s o.name o.dest
  else if o.kind = 5 then removeS s o.name
  else if o.kind = 6 then flushS s
  else if o.kind = 7 then (crashS s o.n o.m, 0)
  else if o.kind = 8 then ({ s with more := o.n }, 0)
  else (s, 0)
structure OpOk (o : OpL) : Prop where
  nm : o.name.length ≤ 1048576
  dest : o.dest.length ≤ 1048576
  dt : o.data.length ≤ 1048576
  n : -9223372036854775808 ≤ o.n ∧ o.n ≤ 9223372036854775807
  m : -9223372036854775808 ≤ o.m ∧ o.m ≤ 9223372036854775807
theorem opS_ok {s : Fs} (ok : FsOk s) {o : OpL} (ho : OpOk o) : FsOk (opS s o).1 := by
  unfold opS
  split; · exact createS_ok ok _
  split; · exact appendS_ok ok _ _
  split; · exact cutS_ok ok _ _
  split; · exact syncS_ok ok _
  split; · exact renameS_ok ok _ _
  split; · exact removeS_ok ok _
  split; · exact flushS_ok ok
  split; · exact crashS_ok ok _ _
  split; · exact ok.stop ho.n
  exact ok
/-- How many steps and files there may be behind a call. -/
theorem opS_count {s : Fs} (hf : s.files.length ≤ s.steps) (o : OpL) : (opS s o).1.steps ≤ s.steps + 1 ∧ (opS s o).1.files.length ≤ (opS s o).1.steps := by
  have key : ∀ r : Fs, r.steps ≤ s.steps + 1 → r.files.length ≤ r.steps → r.steps ≤ s.steps + 1 ∧ r.files.length ≤ r.steps := fun _ h1 h2 => ⟨h1, h2⟩
  unfold opS
  split
  · unfold createS
    split
    · exact ⟨by simp, hf⟩
    split
    · exact ⟨by simp, hf⟩
    split
    · exact ⟨by simp, hf⟩
    · refine ⟨Nat.le_refl _, ?_⟩
      show (s.files ++ [noFi]).length ≤ s.steps + 1
      simp; exact hf
  split
  · unfold appendS
    split
    · exact ⟨by simp, hf⟩
    split
    · exact ⟨by simp, hf⟩
    split
    · exact ⟨by simp, hf⟩
    · refine ⟨Nat.le_refl _, ?_⟩
      show (s.files.set _ _).length ≤ s.steps + 1
      rw [List.length_set]; omega
  split
  · unfold cutS
    split
    · exact ⟨by simp, hf⟩
    split
    · exact ⟨by simp, hf⟩
    split
    · exact ⟨by simp, hf⟩
    · refine ⟨Nat.le_refl _, ?_⟩
      show (s.files.set _ _).length ≤ s.steps + 1
      rw [List.length_set]; omega
  split
  · unfold syncS
    split
    · exact ⟨by simp, hf⟩
    split
    · exact ⟨by simp, hf⟩
    · refine ⟨Nat.le_refl _, ?_⟩
      show (s.files.set _ _).length ≤ s.steps + 1
      rw [List.length_set]; omega
  split
  · unfold renameS
    split
    · exact ⟨by simp, hf⟩
    split
    · exact ⟨by simp, hf⟩
    split
    · exact ⟨by simp, hf⟩
    split
    · exact ⟨by simp, hf⟩
    · exact ⟨Nat.le_refl _, by show s.files.length ≤ s.steps + 1; omega⟩
  split
  · unfold removeS
    split
    · exact ⟨by simp, hf⟩
    split
    · exact ⟨by simp, hf⟩
    · exact ⟨Nat.le_refl _, by show s.files.length ≤ s.steps + 1; omega⟩
  split
  · unfold flushS
    split
    · exact ⟨by simp, hf⟩
    · exact ⟨Nat.le_refl _, by show s.files.length ≤ s.steps + 1; omega⟩
  split
  · exact ⟨by show s.steps ≤ _; omega, by show (s.files.map _).length ≤ s.steps; rw [List.length_map]; exact hf⟩
  split
  · exact ⟨by show s.steps ≤ _; omega, hf⟩
  exact ⟨by simp, hf⟩
theorem opS_bd {s : Fs} (h : Bd s) {o : OpL} (ho : OpOk o) (hs : s.steps + 1 ≤ 4194300) : Bd (opS s o).1 :=
  ⟨opS_ok h.ok ho, Nat.le_trans (opS_count h.fl o).1 hs, (opS_count h.fl o).2⟩
def opRow (o : OpL) (vd : Value) : Array Value := #[.int .i64 o.kind, .string ⟨o.name.toArray⟩, .string ⟨o.dest.toArray⟩, vd, .int .i64 o.n, .int .i64 o.m]
theorem FsG.lt {w0 w : World} {F : Nat → Prop} {bf : Nat} {s : Fs} (g : FsG w0 F w bf s) {k : Nat} (h : F k) : k < w.heap.size := by
  obtain ⟨X, _, hF⟩ := g.ex
  exact (hF k h).2
theorem FsG.less2 {w0 w : World} {F F' : Nat → Prop} {bf : Nat} {s : Fs} (g : FsG w0 F w bf s) (h : ∀ k, F' k → F k) : FsG w0 F' w bf s := by
  obtain ⟨X, h1, hF⟩ := g.ex
  exact ⟨⟨X, h1, fun k hk => hF k (h k hk)⟩, g.below, g.ok⟩
/-- What was there ahead of all lies beside the file system. -/
theorem FsG.low {w0 w : World} {F : Nat → Prop} {bf : Nat} {s : Fs} (g : FsG w0 F w bf s) : FsG w0 (fun k => F k ∨ k < w0.heap.size) w bf s := by
  obtain ⟨X, h1, hF⟩ := g.ex
  refine ⟨⟨X, h1, fun k hk => ?_⟩, g.below, g.ok⟩
  rcases hk with hk | hk
  · exact hF k hk
  · refine ⟨?_, Nat.lt_of_lt_of_le hk g.below.size⟩
    cases e : X.T k with
    | no => rfl
    | _ => exact absurd (h1.dom k (by rw [e]; exact fun c => by cases c)).1 (by omega)
/-- Within the step: the box of the reference's file system, the call's, the result's. -/
structure Ss (w0 w W : World) (F F2 : Nat → Prop) (bf : Nat) (vf vn vs va : Value) (room steps l : Int) (opr : Array Value) (s : Fs) : Prop where
  g : FsG w0 F2 W bf s
  inc : ∀ k, F k → F2 k
  b0 : F2 w.heap.size
  b1 : F2 (w.heap.size + 1)
  b2 : F2 (w.heap.size + 1 + 1)
  up : ∀ k, F2 k → F k ∨ w.heap.size ≤ k
  box : FsBox W w.heap.size vf vn vs va room steps l
  op : W.heap[w.heap.size + 1]? = some (.cells opr 37 (0, 0))
  res : W.heap[w.heap.size + 1 + 1]? = some (.cells zrow 33 (0, 0))
  far : ∀ k, F k → W.heap[k]? = w.heap[k]?
  fl : ∀ k, F k → k < w.heap.size
  sz : w.heap.size + 3 ≤ W.heap.size
  low : w0.heap.size ≤ w.heap.size
theorem Ss.make {w0 w : World} {F : Nat → Prop} {bf : Nat} {s : Fs} (g : FsG w0 F w bf s) (vf vn vs va : Value) (room steps l : Int) (opr : Array Value) :
    Ss w0 w (((w.alloc (.cells (fsV vf vn vs va room steps l) 33)).alloc (.cells opr 37)).alloc (.cells zrow 33)) F (fun k => F k ∨ (w.heap.size ≤ k ∧ k < w.heap.size + 3)) bf vf vn vs va room steps l opr s := by
  obtain ⟨h1, h2, h3, h4, h5⟩ := three_box2 w vf vn vs va room steps l opr 37 zrow
  generalize (((w.alloc (.cells (fsV vf vn vs va room steps l) 33)).alloc (.cells opr 37)).alloc (.cells zrow 33)) = W at *
  exact ⟨g.more h4 (fun k hk => by rw [h5]; exact hk), fun k hk => Or.inl hk, Or.inr ⟨by omega, by omega⟩, Or.inr ⟨by omega, by omega⟩, Or.inr ⟨by omega, by omega⟩, fun k hk => hk.elim Or.inl (fun e => Or.inr e.1), h1, h2, h3, fun k hk => h4.block k (g.lt hk), fun k hk => g.lt hk, by omega, g.below.size⟩
/-- The program's call. -/
theorem Ss.prog {w0 w W W' : World} {F F2 : Nat → Prop} {bf : Nat} {vf vn vs va : Value} {room steps l : Int} {opr : Array Value} {s s' : Fs} (h : Ss w0 w W F F2 bf vf vn vs va room steps l opr s) (g : FsG w0 F2 W' bf s') (hs : W.heap.size ≤ W'.heap.size) (hk : ∀ k, F2 k → W'.heap[k]? = W.heap[k]?) :
    Ss w0 w W' F F2 bf vf vn vs va room steps l opr s' :=
  ⟨g, h.inc, h.b0, h.b1, h.b2, h.up, h.box.kept (hk _ h.b0), (hk _ h.b1).trans h.op, (hk _ h.b2).trans h.res, fun k hf => (hk k (h.inc k hf)).trans (h.far k hf), h.fl, Nat.le_trans h.sz hs, h.low⟩
/-- The reference's call. -/
theorem Ss.ref {w0 w W W' : World} {F F2 : Nat → Prop} {bf : Nat} {vf vn vs va : Value} {room steps l : Int} {opr : Array Value} {s : Fs} (h : Ss w0 w W F F2 bf vf vn vs va room steps l opr s) (hb : Below W.heap.size W W') :
    Ss w0 w W' F (fun k => F2 k ∨ (W.heap.size ≤ k ∧ k < W'.heap.size)) bf vf vn vs va room steps l opr s :=
  ⟨h.g.more hb (fun _ hk => hk), fun k hk => Or.inl (h.inc k hk), Or.inl h.b0, Or.inl h.b1, Or.inl h.b2, fun k hk => hk.elim (h.up k) (fun e => Or.inr (by have := h.sz; omega)), h.box.kept (hb.block _ (by have := h.sz; omega)), (hb.block _ (by have := h.sz; omega)).trans h.op, (hb.block _ (by have := h.sz; omega)).trans h.res,
    fun k hf => (hb.block k (by have := h.sz; have := h.fl k hf; omega)).trans (h.far k hf), h.fl, Nat.le_trans h.sz hb.size, h.low⟩
theorem Alone.setP {b : Nat} {w w' : World} (h : SetP b w w') (ho : w'.os = w.os) (ht : w'.tape = w.tape) (hu : w'.output = w.output) : Alone b w w' :=
  ⟨ho, ht, hu, Nat.le_of_eq h.size.symm, fun k _ hn => h.far k hn⟩
/-- What is written lies in one block: the rest of the world is as it was. -/
structure SetA (b : Nat) (w w' : World) : Prop where
  al : Alone b w w'
  size : w'.heap.size = w.heap.size
theorem SetA.one (w : World) (b i : Nat) (v : Value) : SetA b w (w.setCell ⟨b, i, none⟩ v) := ⟨Alone.set b i w v, by simp⟩
theorem SetA.trans {b : Nat} {w w1 w2 : World} (h : SetA b w w1) (k : SetA b w1 w2) : SetA b w w2 := ⟨h.al.trans k.al, k.size.trans h.size⟩
theorem setA_seven {w W : World} {b : Nat} {v0 v1 v2 v3 v4 v5 v6 : Value} (hW : ((((((w.setCell ⟨b, 0, none⟩ v0).setCell ⟨b, 1, none⟩ v1).setCell ⟨b, 2, none⟩ v2).setCell ⟨b, 3, none⟩ v3).setCell ⟨b, 4, none⟩ v4).setCell ⟨b, 5, none⟩ v5).setCell ⟨b, 6, none⟩ v6 = W) : SetA b w W := by
  rw [← hW]
  exact (SetA.one _ _ _ _).trans ((SetA.one _ _ _ _).trans ((SetA.one _ _ _ _).trans ((SetA.one _ _ _ _).trans ((SetA.one _ _ _ _).trans ((SetA.one _ _ _ _).trans (SetA.one _ _ _ _))))))
theorem SetA.far {b : Nat} {w w' : World} (h : SetA b w w') {k : Nat} (hk : k ≠ b) : w'.heap[k]? = w.heap[k]? := by
  by_cases hlt : k < w.heap.size
  · exact h.al.block k hlt hk
  · have h1 := h.size
    rw [Array.getElem?_eq_none (by omega), Array.getElem?_eq_none (by omega)]
/-- The box of the file system written as a whole. -/
theorem Ss.put {w0 w W W' : World} {F F2 : Nat → Prop} {bf : Nat} {vf vn vs va : Value} {room steps l : Int} {opr : Array Value} {s : Fs} (h : Ss w0 w W F F2 bf vf vn vs va room steps l opr s) {vf' vn' vs' va' : Value} {room' steps' l' : Int}
    (hW : ((((((W.setCell ⟨w.heap.size, 0, none⟩ vf').setCell ⟨w.heap.size, 1, none⟩ vn').setCell ⟨w.heap.size, 2, none⟩ vs').setCell ⟨w.heap.size, 3, none⟩ va').setCell ⟨w.heap.size, 4, none⟩ (.int .i64 room')).setCell ⟨w.heap.size, 5, none⟩ (.int .i64 steps')).setCell ⟨w.heap.size, 6, none⟩ (.int .i64 l') = W') :
    Ss w0 w W' F F2 bf vf' vn' vs' va' room' steps' l' opr s ∧ SetA w.heap.size W W' := by
  have hb := h.box.blk
  unfold fsV at hb
  obtain ⟨h1, _⟩ := fs_put hb vf' vn' vs' va' room' steps' l' hW
  have h2 := setA_seven hW
  refine ⟨⟨h.g.write h.b0 h.low h2.al, h.inc, h.b0, h.b1, h.b2, h.up, h1, (h2.far (by omega)).trans h.op, (h2.far (by omega)).trans h.res, fun k hf => (h2.far (by have := h.fl k hf; omega)).trans (h.far k hf), h.fl, by rw [h2.size]; exact h.sz, h.low⟩, h2⟩
def StP (w0 : World) (F S : Nat → Prop) (w : World) (bf : Nat) (s : Fs) (e : Ending) (w' : World) : Prop :=
  ∃ v' F', e = .returned (.tuple #[v', .bool true]) ∧ (∀ k, F k → F' k) ∧ FsG w0 F' w' bf s ∧ FsV (fun k => F' k ∧ (S k ∨ w.heap.size ≤ k)) w' v' s ∧ w.heap.size ≤ w'.heap.size ∧ ∀ k, F k → w'.heap[k]? = w.heap[k]?
theorem Ss.ocells {w0 w W : World} {F F2 : Nat → Prop} {bf : Nat} {vf vn vs va : Value} {room steps l : Int} {s : Fs} {c : Int} {x y : Nm} {d : Nm} {n m : Int} {vd : Value} (h : Ss w0 w W F F2 bf vf vn vs va room steps l (opRow ⟨c, x, y, d, n, m⟩ vd) s) :
    W.cell? ⟨w.heap.size + 1, 0, none⟩ = some (.int .i64 c) ∧ W.cell? ⟨w.heap.size + 1, 1, none⟩ = some (.string ⟨x.toArray⟩) ∧ W.cell? ⟨w.heap.size + 1, 2, none⟩ = some (.string ⟨y.toArray⟩) ∧ W.cell? ⟨w.heap.size + 1, 3, none⟩ = some vd ∧ W.cell? ⟨w.heap.size + 1, 4, none⟩ = some (.int .i64 n) ∧ W.cell? ⟨w.heap.size + 1, 5, none⟩ = some (.int .i64 m) := by
  have rc := fun (k : Nat) (v : Value) (hv : (opRow ⟨c, x, y, d, n, m⟩ vd)[k]? = some v) => (cell_of_row W (w.heap.size + 1) k _ _ _ h.op).trans hv
  exact ⟨rc 0 _ rfl, rc 1 _ rfl, rc 2 _ rfl, rc 3 _ rfl, rc 4 _ rfl, rc 5 _ rfl⟩
theorem Ss.rcells {w0 w W : World} {F F2 : Nat → Prop} {bf : Nat} {vf vn vs va : Value} {room steps l : Int} {opr : Array Value} {s : Fs} (h : Ss w0 w W F F2 bf vf vn vs va room steps l opr s) :
    W.cell? ⟨w.heap.size + 1 + 1, 0, none⟩ = some (.slice none 0 0) ∧ W.cell? ⟨w.heap.size + 1 + 1, 1, none⟩ = some (.slice none 0 0) ∧ W.cell? ⟨w.heap.size + 1 + 1, 2, none⟩ = some (.slice none 0 0) ∧ W.cell? ⟨w.heap.size + 1 + 1, 3, none⟩ = some (.slice none 0 0) ∧ W.cell? ⟨w.heap.size + 1 + 1, 4, none⟩ = some (.int .i64 0) ∧ W.cell? ⟨w.heap.size + 1 + 1, 5, none⟩ = some (.int .i64 0) ∧ W.cell? ⟨w.heap.size + 1 + 1, 6, none⟩ = some (.int .i64 0) := by
  have rc := fun (k : Nat) (v : Value) (hv : zrow[k]? = some v) => (cell_of_row W (w.heap.size + 1 + 1) k _ _ _ h.res).trans hv
  exact ⟨rc 0 _ rfl, rc 1 _ rfl, rc 2 _ rfl, rc 3 _ rfl, rc 4 _ rfl, rc 5 _ rfl, rc 6 _ rfl⟩
/-- The result's box written as a whole. -/
theorem Ss.fin {w0 w W W' : World} {F F2 : Nat → Prop} {bf : Nat} {vf vn vs va : Value} {room steps l : Int} {opr : Array Value} {s : Fs} (h : Ss w0 w W F F2 bf vf vn vs va room steps l opr s) {vf' vn' vs' va' : Value} {room' steps' l' : Int}
    (hW : ((((((W.setCell ⟨w.heap.size + 1 + 1, 0, none⟩ vf').setCell ⟨w.heap.size + 1 + 1, 1, none⟩ vn').setCell ⟨w.heap.size + 1 + 1, 2, none⟩ vs').setCell ⟨w.heap.size + 1 + 1, 3, none⟩ va').setCell ⟨w.heap.size + 1 + 1, 4, none⟩ (.int .i64 room')).setCell ⟨w.heap.size + 1 + 1, 5, none⟩ (.int .i64 steps')).setCell ⟨w.heap.size + 1 + 1, 6, none⟩ (.int .i64 l') = W') :
    FsBox W' (w.heap.size + 1 + 1) vf' vn' vs' va' room' steps' l' ∧ SetA (w.heap.size + 1 + 1) W W' ∧ FsG w0 F2 W' bf s ∧ ∀ k, F k → W'.heap[k]? = w.heap[k]? := by
  have hb := h.res
  unfold zrow at hb
  obtain ⟨h1, _⟩ := fs_put hb vf' vn' vs' va' room' steps' l' hW
  have h2 := setA_seven hW
  exact ⟨h1, h2, h.g.write h.b2 (by have := h.low; omega) h2.al, fun k hk => (h2.far (by have := h.fl k hk; omega)).trans (h.far k hk)⟩
end Go.Proofs.YtjefcalndfcmdaaGreatDoor
