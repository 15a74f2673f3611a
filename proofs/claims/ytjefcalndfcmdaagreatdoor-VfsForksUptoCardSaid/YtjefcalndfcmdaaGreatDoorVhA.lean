/- What the laws' loops over scripts hold. -/
import Derived.Test.YtjefcalndfcmdaaGreatDoorVgZ
namespace Go.Proofs.YtjefcalndfcmdaaGreatDoor
open Go.RowKit Go.Maps
def opRel (S : Nat → Prop) (w : World) (o : OpL) (cs : List Value) : Prop := ∃ vd, cs = [.int .i64 o.kind, .string ⟨o.name.toArray⟩, .string ⟨o.dest.toArray⟩, vd, .int .i64 o.n, .int .i64 o.m] ∧ BytesC S w vd o.data
theorem opRel_keeps : Keeps opRel := fun _ _ _ _ _ _ ⟨vd, e, h⟩ hk => ⟨vd, e, h.kept hk⟩
def OpsC (S : Nat → Prop) (w : World) (v : Value) (l : List OpL) : Prop := RowsC opRel 6 S w v l
/-- A script's call, in memory. -/
theorem OpsC.at {S : Nat → Prop} {w : World} {a : Option Addr} {c : Nat} {l : List OpL} (h : OpsC S w (.slice a l.length c) l) (hn : 0 < l.length) :
    ∃ g o, a = some ⟨g, o, none⟩ ∧ S g ∧ ∀ k e, l[k]? = some e → ∃ vd, BytesC S w vd e.data ∧ w.cell? ⟨g, o + k * 6, none⟩ = some (.int .i64 e.kind) ∧ w.cell? ⟨g, o + k * 6 + 1, none⟩ = some (.string ⟨e.name.toArray⟩) ∧ w.cell? ⟨g, o + k * 6 + 2, none⟩ = some (.string ⟨e.dest.toArray⟩) ∧ w.cell? ⟨g, o + k * 6 + 3, none⟩ = some vd ∧ w.cell? ⟨g, o + k * 6 + 4, none⟩ = some (.int .i64 e.n) ∧ w.cell? ⟨g, o + k * 6 + 5, none⟩ = some (.int .i64 e.m) := by
  obtain ⟨g, o, e1, e2, _, _, hat⟩ := RowsC.at h hn
  refine ⟨g, o, e1, e2, fun k e he => ?_⟩
  obtain ⟨cs, _, ⟨vd, rfl, hd⟩, hc⟩ := hat k e he
  exact ⟨vd, hd, hc 0 _ rfl, hc 1 _ rfl, hc 2 _ rfl, hc 3 _ rfl, hc 4 _ rfl, hc 5 _ rfl⟩
/-- Both file systems at a loop's head: the program's at bf, the reference's in the box bw; K: what else stays as it was in wB. -/
structure Pl (w0 wB wr : World) (K : Nat → Prop) (bf bw : Nat) (s : Fs) : Prop where
  ex : ∃ F vf vn vs va, FsG w0 F wr bf s ∧ (∀ q, K q → F q) ∧ F bw ∧ FsBox wr bw vf vn vs va (s.room : Int) (s.steps : Int) (lim s) ∧ FsR (fun q => F q ∧ q ≠ bw) wr vf vn vs va s
  keep : ∀ q, K q → wr.heap[q]? = wB.heap[q]?
  nk : ¬ K bw
  low : w0.heap.size ≤ bw
/-- .. with its rows as slices. -/
theorem Pl.shape {w0 wB wr : World} {K : Nat → Prop} {bf bw : Nat} {s : Fs} (h : Pl w0 wB wr K bf bw s) : ∃ F af an az aa cf cn cs ca, FsG w0 F wr bf s ∧ (∀ q, K q → F q) ∧ F bw ∧
    FsBox wr bw (.slice af s.files.length cf) (.slice an s.now.length cn) (.slice az s.sure.length cs) (.slice aa s.acts.length ca) (s.room : Int) (s.steps : Int) (lim s) ∧
    FsR (fun q => F q ∧ q ≠ bw) wr (.slice af s.files.length cf) (.slice an s.now.length cn) (.slice az s.sure.length cs) (.slice aa s.acts.length ca) s := by
  obtain ⟨F, vf, vn, vs, va, g, hK, hb, hX, hR⟩ := h.ex
  obtain ⟨af, cf, rfl⟩ := CellsC.shape hR.files
  obtain ⟨an, cn, rfl⟩ := CellsC.shape hR.now
  obtain ⟨az, cs, rfl⟩ := CellsC.shape hR.sure
  obtain ⟨aa, ca, rfl⟩ := CellsC.shape hR.acts
  exact ⟨F, af, an, az, aa, cf, cn, cs, ca, g, hK, hb, hX, hR⟩
theorem FsG.bwlt {w0 w : World} {F : Nat → Prop} {bf : Nat} {s : Fs} (g : FsG w0 F w bf s) {b : Nat} (hb : F b) : b < w.heap.size := g.lt hb
/-- Behind the step: the reference's file system is stored into its box. -/
theorem Pl.after {w0 wB wr wA w5 w6 : World} {K F F5 : Nat → Prop} {bf bw : Nat} {s s' : Fs} {vf vn vs va : Value} (h : Pl w0 wB wr K bf bw s) (hFK : ∀ q, K q → F q) (hbw : F bw) (gA : FsG w0 F wA bf s) (hA : ∀ q, F q → wA.heap[q]? = wr.heap[q]?)
    (inc : ∀ k, F k → F5 k) (g5 : FsG w0 F5 w5 bf s') (hR5 : FsR (fun k => F5 k ∧ ((F k ∧ k ≠ bw) ∨ wA.heap.size ≤ k)) w5 vf vn vs va s') (far : ∀ k, F k → w5.heap[k]? = wA.heap[k]?) {x0 x1 x2 x3 x4 x5 x6 : Value}
    (hX : w5.heap[bw]? = some (.cells #[x0, x1, x2, x3, x4, x5, x6] 33 (0, 0)))
    (hW : ((((((w5.setCell ⟨bw, 0, none⟩ vf).setCell ⟨bw, 1, none⟩ vn).setCell ⟨bw, 2, none⟩ vs).setCell ⟨bw, 3, none⟩ va).setCell ⟨bw, 4, none⟩ (.int .i64 (s'.room : Int))).setCell ⟨bw, 5, none⟩ (.int .i64 (s'.steps : Int))).setCell ⟨bw, 6, none⟩ (.int .i64 (lim s')) = w6) :
    Pl w0 wB w6 K bf bw s' := by
  obtain ⟨h1, _⟩ := fs_put hX vf vn vs va _ _ _ hW
  have h2 := setA_seven hW
  refine ⟨⟨F5, vf, vn, vs, va, g5.write (inc _ hbw) h.low h2.al, fun q hq => inc q (hFK q hq), inc _ hbw, h1, hR5.kept (fun q hq => ?_)⟩, fun q hq => ?_, h.nk, h.low⟩
  · have hl := gA.lt hbw
    have hne : q ≠ bw := by
      rcases hq.2 with h3 | h3
      · exact h3.2
      · omega
    exact ⟨⟨hq.1, hne⟩, h2.far hne⟩
  · have hne : q ≠ bw := fun e => h.nk (e ▸ hq)
    exact (h2.far hne).trans ((far q (hFK q hq)).trans ((hA q (hFK q hq)).trans (h.keep q hq)))
/-- A call of the program alone. -/
theorem Pl.prog {w0 wB wr w' : World} {K F : Nat → Prop} {bf bw : Nat} {s s' : Fs} {vf vn vs va : Value} (h : Pl w0 wB wr K bf bw s) (hFK : ∀ q, K q → F q) (hbw : F bw) (g : FsG w0 F w' bf s') (hk : ∀ k, F k → w'.heap[k]? = wr.heap[k]?) (hX : FsBox w' bw vf vn vs va (s'.room : Int) (s'.steps : Int) (lim s')) (hR : FsR (fun q => F q ∧ q ≠ bw) w' vf vn vs va s') :
    Pl w0 wB w' K bf bw s' := ⟨⟨F, vf, vn, vs, va, g, hFK, hbw, hX, hR⟩, fun q hq => (hk q (hFK q hq)).trans (h.keep q hq), h.nk, h.low⟩
theorem Pl.beside {w0 wB wr w' : World} {K : Nat → Prop} {bf bw : Nat} {s : Fs} (h : Pl w0 wB wr K bf bw s) (hb : Below wr.heap.size wr w') : Pl w0 wB w' K bf bw s := by
  obtain ⟨F, vf, vn, vs, va, g, hK, hbw, hX, hR⟩ := h.ex
  exact ⟨⟨F, vf, vn, vs, va, g.beside hb, hK, hbw, hX.kept (hb.block _ (g.lt hbw)), hR.kept (fun q hq => ⟨hq, hb.block q (g.lt hq.1)⟩)⟩, fun q hq => (hb.block q (g.lt (hK q hq))).trans (h.keep q hq), h.nk, h.low⟩
/-- The power is taken away at both. -/
theorem Pl.stopped {w0 wB wr w5 : World} {K F : Nat → Prop} {bf bw : Nat} {s : Fs} {vf vn vs va : Value} (h : Pl w0 wB wr K bf bw s) (n : Int) (hFK : ∀ q, K q → F q) (hbw : F bw) (g : FsG w0 F w5 bf { s with more := n }) (hk : ∀ k, F k → w5.heap[k]? = wr.heap[k]?) (hX : FsBox wr bw vf vn vs va (s.room : Int) (s.steps : Int) (lim s)) (hR : FsR (fun q => F q ∧ q ≠ bw) wr vf vn vs va s) (hn : -1 ≤ n) :
    Pl w0 wB (w5.setCell ⟨bw, 6, none⟩ (.int .i64 n)) K bf bw { s with more := n } := by
  have h2 := SetA.one w5 bw 6 (.int .i64 n)
  have hl : lim ({ s with more := n } : Fs) = n := by unfold lim; dsimp only; split <;> omega
  have h3 := cells_set (i := 6) (hX.kept (hk _ hbw)).blk (.int .i64 n)
  refine ⟨⟨F, vf, vn, vs, va, g.write hbw h.low h2.al, hFK, hbw, ⟨?_⟩, ?_⟩, fun q hq => ?_, h.nk, h.low⟩
  · rw [hl]; exact h3.trans rfl
  · have hR2 : FsR (fun q => F q ∧ q ≠ bw) (w5.setCell ⟨bw, 6, none⟩ (.int .i64 n)) vf vn vs va s := hR.kept (fun q hq => ⟨hq, (h2.far hq.2).trans (hk q hq.1)⟩)
    exact ⟨hR2.files, hR2.now, hR2.sure, hR2.acts⟩
  · exact (h2.far (fun e => h.nk (e ▸ hq))).trans ((hk q (hFK q hq)).trans (h.keep q hq))
/-- A call of the program that leaves the files as they are. -/
theorem Pl.still {w0 wB wr w' : World} {K F : Nat → Prop} {bf bw : Nat} {s : Fs} {vf vn vs va : Value} (h : Pl w0 wB wr K bf bw s) (hFK : ∀ q, K q → F q) (hbw : F bw) (g : FsG w0 F w' bf s) (hk : ∀ k, F k → w'.heap[k]? = wr.heap[k]?) (hX : FsBox wr bw vf vn vs va (s.room : Int) (s.steps : Int) (lim s)) (hR : FsR (fun q => F q ∧ q ≠ bw) wr vf vn vs va s) :
    Pl w0 wB w' K bf bw s := h.prog hFK hbw g hk (hX.kept (hk _ hbw)) (hR.kept (fun q hq => ⟨hq, hk q hq.1⟩))
theorem Pl.ok {w0 wB wr : World} {K : Nat → Prop} {bf bw : Nat} {s : Fs} (h : Pl w0 wB wr K bf bw s) : FsOk s := by
  obtain ⟨F, _, _, _, _, g, _⟩ := h.ex
  exact g.ok
theorem Pl.below {w0 wB wr : World} {K : Nat → Prop} {bf bw : Nat} {s : Fs} (h : Pl w0 wB wr K bf bw s) : Below w0.heap.size w0 wr := by
  obtain ⟨F, _, _, _, _, g, _⟩ := h.ex
  exact g.below
/-- Both file systems are new. -/
theorem Pl.begin {w w1 w2 w3 : World} {bf n : Nat} (g2 : FsG w (fun k => w.heap.size ≤ k ∧ k < w1.heap.size) w2 bf (newS n)) (b3 : Below w2.heap.size w2 w3) (h2 : w1.heap.size ≤ w2.heap.size) :
    Pl w (w3.alloc (.cells (fsV (.slice none 0 0) (.slice none 0 0) (.slice none 0 0) (.slice none 0 0) (n : Int) 0 (-1)) 33)) (w3.alloc (.cells (fsV (.slice none 0 0) (.slice none 0 0) (.slice none 0 0) (.slice none 0 0) (n : Int) 0 (-1)) 33)) (fun q => q < w1.heap.size) bf w3.heap.size (newS n) := by
  have g3 := g2.low.more b3 (F' := fun k => k < w1.heap.size) (fun k hk => Or.inl (by by_cases h : w.heap.size ≤ k; exact Or.inl ⟨h, hk⟩; exact Or.inr (by omega)))
  have hz3 := b3.size
  have h0 := new_five w3 (fsV (.slice none 0 0) (.slice none 0 0) (.slice none 0 0) (.slice none 0 0) (n : Int) 0 (-1)) 33
  have hz : (w3.alloc (.cells (fsV (.slice none 0 0) (.slice none 0 0) (.slice none 0 0) (.slice none 0 0) (n : Int) 0 (-1)) 33)).heap.size = w3.heap.size + 1 := by simp
  have hb := (Below.refl w3.heap.size w3).alloc (Nat.le_refl _) (.cells (fsV (.slice none 0 0) (.slice none 0 0) (.slice none 0 0) (.slice none 0 0) (n : Int) 0 (-1)) 33)
  generalize w3.alloc (.cells (fsV (.slice none 0 0) (.slice none 0 0) (.slice none 0 0) (.slice none 0 0) (n : Int) 0 (-1)) 33) = w4 at *
  have g4 := g3.more hb (F' := fun k => k < w1.heap.size ∨ k = w3.heap.size) (fun k hk => hk.elim Or.inl (fun e => Or.inr ⟨by omega, by omega⟩))
  exact ⟨⟨_, _, _, _, _, g4, fun q hq => Or.inl hq, Or.inr rfl, ⟨h0⟩, ⟨CellsC.nil _ _ _ _ _, CellsC.nil _ _ _ _ _, CellsC.nil _ _ _ _ _, CellsC.nil _ _ _ _ _⟩⟩, fun _ _ => rfl, by omega, g3.below.size⟩
/-- With the power gone nothing changes. -/
theorem opS_stopped {s : Fs} (h : s.more = 0) (o : OpL) (h7 : o.kind ≠ 7) (h8 : o.kind ≠ 8) : (opS s o).1 = s := by
  unfold opS
  split
  · unfold createS; repeat' split
    all_goals first | rfl | contradiction
  split
  · unfold appendS; repeat' split
    all_goals first | rfl | contradiction
  split
  · unfold cutS; repeat' split
    all_goals first | rfl | contradiction
  split
  · unfold syncS; repeat' split
    all_goals first | rfl | contradiction
  split
  · unfold renameS; repeat' split
    all_goals first | rfl | contradiction
  split
  · unfold removeS; repeat' split
    all_goals first | rfl | contradiction
  split
  · unfold flushS; rw [if_pos h]
  repeat' split
  all_goals first | rfl | contradiction
theorem bytes_slice {S : Nat → Prop} {w : World} {v : Value} {l : List UInt8} (h : BytesC S w v l) : ∃ a n c, v = .slice a n c := by
  rcases h with ⟨rfl, _⟩ | ⟨a, cap, rfl, _⟩
  · exact ⟨_, _, _, rfl⟩
  · exact ⟨_, _, _, rfl⟩
def TrueV (w : World) (e : Ending) (w' : World) : Prop := e = .returned (.bool true) ∧ Below w.heap.size w w'
end Go.Proofs.YtjefcalndfcmdaaGreatDoor
