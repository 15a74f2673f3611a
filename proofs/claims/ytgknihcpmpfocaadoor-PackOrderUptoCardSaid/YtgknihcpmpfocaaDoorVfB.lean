/- A file system in memory: the roles of its blocks; names as a map; what stays. -/
import Derived.Test.YtgknihcpmpfocaaDoorVfA
import Derived.Test.YtgknihcpmpfocaaDoorMark
import Derived.Test.YtgknihcpmpfocaaDoorRecs
import Derived.Test.YtgknihcpmpfocaaDoorJnA
import Derived.Maps.OwnOps
import Derived.Maps.Views
import Derived.Carry
import Derived.StringKeys
namespace Go.Proofs.YtgknihcpmpfocaaDoor
open Go.RowKit Go.Maps
/-- A pointer to a record of a block's own, as a datum. -/
def ptrR : Value → Option (DataW Unit × List MemPlace)
  | .pointer none => some (.lit (.int .i64 (-1)), [])
  | .pointer (some ⟨b, 0, none⟩) => some (.lit (.int .i64 (b : Int)), [])
  | _ => none
theorem ptrR_none {v : Value} {ps : List MemPlace} (h : ptrR v = some (.lit (.int .i64 (-1)), ps)) : v = .pointer none := by
  unfold ptrR at h
  split at h
  · rfl
  · simp only [Option.some.injEq, Prod.mk.injEq, DataW.lit.injEq, Lit.int.injEq] at h
    omega
  · cases h
theorem ptrR_some {v : Value} {b : Nat} {ps : List MemPlace} (h : ptrR v = some (.lit (.int .i64 (b : Int)), ps)) : v = .pointer (some ⟨b, 0, none⟩) := by
  unfold ptrR at h
  split at h
  · simp only [Option.some.injEq, Prod.mk.injEq, DataW.lit.injEq, Lit.int.injEq] at h
    omega
  · rename_i b2
    simp only [Option.some.injEq, Prod.mk.injEq, DataW.lit.injEq, Lit.int.injEq] at h
    have : b2 = b := by omega
    rw [this]
  · cases h
theorem keyLaw : Keyed Tryd.prog 9 := string_keyed Tryd.underlying9
theorem key_of {x : Nm} (h : x.length ≤ 4194304) : keyOf Tryd.prog 9 (.string ⟨x.toArray⟩) = some (.string x) := by
  have := Go.WideMaps.keyOf_string_mk Tryd.underlying9 (s := ⟨x.toArray⟩) (by unfold maxLen; simp [ByteArray.size]; omega)
  simpa using this
theorem zeroPtr (w : World) : (zeroValue 82).run Tryd.prog w = .ok (.pointer none) w := by kernel_rfl
/-- Which block the file has that a name means; z: none. -/
def fndB (fb : Nat → Nat) (l : Dir) (x : Nm) (z : DataW Unit) : DataW Unit := match fnd l x with
  | none => z
  | some i => .lit (.int .i64 (fb i : Int))
def fndV (fb : Nat → Nat) (l : Dir) (x : Nm) : Value := match fnd l x with
  | none => .pointer none
  | some i => .pointer (some ⟨fb i, 0, none⟩)
structure MapAt (w : World) (b n : Nat) (D : DataW Unit) (fb : Nat → Nat) (l : Dir) : Prop where
  own : w.ownsMap Tryd.prog 9 ptrR b n D
  tidy : Tidy D
  at_ : ∀ x z, D.atKey (.string x) z = fndB fb l x z
theorem MapAt.kept {w w' : World} {b n : Nat} {D : DataW Unit} {fb : Nat → Nat} {l : Dir} (h : MapAt w b n D fb l) (hk : w'.heap[b]? = w.heap[b]?) : MapAt w' b n D fb l := by
  refine ⟨?_, h.tidy, h.at_⟩
  obtain ⟨es, clock, hb, F, hs, hD⟩ := h.own
  exact ⟨es, clock, hk.trans hb, F, hs, hD⟩
theorem MapAt.made (w : World) (fb : Nat → Nat) : MapAt (w.alloc (.map #[] 0)) w.heap.size 0 (.map []) fb [] :=
  ⟨World.ownsMap_made _ _ _ _, tidy_empty, fun x z => by simp [DataW.atKey, fndB, fnd]⟩
theorem MapAt.look {w : World} {b n : Nat} {D : DataW Unit} {fb : Nat → Nat} {l : Dir} (h : MapAt w b n D fb l) {x : Nm} (hx : x.length ≤ 4194304) :
    (Instr.lookup 67 (.map (some b)) (.string ⟨x.toArray⟩) false).run Tryd.prog w = .ok (fndV fb l x) w := by
  obtain ⟨v, ps, hrun, hv⟩ := h.own.lookup keyLaw Tryd.underlying67 (zeroPtr w) (zd := .lit (.int .i64 (-1))) (zp := []) rfl (key_of hx)
  rw [h.at_] at hv
  rw [hrun]
  unfold fndB at hv
  unfold fndV
  cases hf : fnd l x with
  | none => rw [hf] at hv; rw [ptrR_none hv]
  | some i => rw [hf] at hv; rw [ptrR_some hv]
/-- What a block of a file system is there for. -/
inductive Role where
  | no
  | fs
  | now
  | sure
  | row
  | file (i : Nat)
  | data (i : Nat)
structure FsX where
  T : Nat → Role
  bn : Nat
  bd : Nat
  nn : Nat
  nd : Nat
  va : Value
  Dn : DataW Unit
  Dd : DataW Unit
  fb : Nat → Nat
  dv : Nat → Value
/-- The pointer of a change. -/
def acP (fb : Nat → Nat) (a : Ac) : Value := match a.file with
  | none => .pointer none
  | some i => .pointer (some ⟨fb i, 0, none⟩)
def acV (fb : Nat → Nat) (a : Ac) : List Value := [.string ⟨a.gone.toArray⟩, .string ⟨a.come.toArray⟩, acP fb a]
def acsV (fb : Nat → Nat) (l : List Ac) : List Value := (l.map (acV fb)).flatten
structure FileOk (B : Nat) (X : FsX) (w : World) (s : Fs) (i : Nat) : Prop where
  tb : X.T (X.fb i) = .file i
  tv : ∀ k, (X.dv i).ownBlock = some k → X.T k = .data i
  blk : w.heap[X.fb i]? = some (.cells #[X.dv i, .int .i64 ((s.files.getD i noFi).dur : Int)] 84 (0, 0))
  row : RowM w B (X.dv i) (bv (s.files.getD i noFi).data)
/-- The number that Steps tells. -/
def stV (s : Fs) : Int := (s.steps : Int) - ((s.lead % 16777216 : Nat) : Int)
theorem stV_bd {s : Fs} (h : s.steps ≤ 16777216) : -16777216 ≤ stV s ∧ stV s ≤ 16777216 := by unfold stV; omega
def fsRow (X : FsX) (s : Fs) : Array Value := #[.int .i64 (s.room : Int), .int .i64 (used s : Int), .map (some X.bn), .map (some X.bd), X.va, .int .i64 (stV s), .int .i64 s.more]
structure FsAt (B : Nat) (X : FsX) (w : World) (bf : Nat) (s : Fs) : Prop where
  dom : ∀ k, X.T k ≠ .no → B ≤ k ∧ k < w.heap.size
  tf : X.T bf = .fs
  tn : X.T X.bn = .now
  td : X.T X.bd = .sure
  tr : ∀ k, X.va.ownBlock = some k → X.T k = .row
  blk : w.heap[bf]? = some (.cells (fsRow X s) 70 (0, 0))
  mn : MapAt w X.bn X.nn X.Dn X.fb s.now
  md : MapAt w X.bd X.nd X.Dd X.fb s.sure
  hn : X.nn ≤ s.steps
  hd : X.nd + s.acts.length ≤ s.steps
  row : w.ownsRow B 101 3 X.va s.acts.length (acsV X.fb s.acts)
  fil : ∀ i, Live s i → FileOk B X w s i
/-- What a call may do to memory: nothing to what was there, but to the file system's own blocks. -/
structure FsUp (B : Nat) (X : FsX) (w : World) (X' : FsX) (w' : World) : Prop where
  below : Below B w w'
  far : ∀ k, k < w.heap.size → X.T k = .no → w'.heap[k]? = w.heap[k]?
  dom : ∀ k, X'.T k ≠ .no → X.T k ≠ .no ∨ w.heap.size ≤ k
theorem FsUp.refl (B : Nat) (X : FsX) (w : World) : FsUp B X w X w := ⟨Below.refl _ _, fun _ _ _ => rfl, fun _ h => Or.inl h⟩
theorem FsUp.size {B : Nat} {X X' : FsX} {w w' : World} (h : FsUp B X w X' w') : w.heap.size ≤ w'.heap.size := h.below.size
theorem FsUp.trans {B : Nat} {X X1 X2 : FsX} {w w1 w2 : World} (h : FsUp B X w X1 w1) (k : FsUp B X1 w1 X2 w2) : FsUp B X w X2 w2 := by
  refine ⟨h.below.trans k.below, fun q hq ht => ?_, fun q hq => ?_⟩
  · have h1 : X1.T q = .no := by
      cases e : X1.T q with
      | no => rfl
      | _ =>
        rcases h.dom q (by rw [e]; exact fun c => by cases c) with h2 | h2
        · exact absurd ht h2
        · omega
    rw [k.far q (Nat.lt_of_lt_of_le hq h.size) h1, h.far q hq ht]
  · rcases k.dom q hq with h1 | h1
    · exact h.dom q h1
    · exact Or.inr (Nat.le_trans h.size h1)
/-- A call that leaves all that was there. -/
theorem FsUp.of {B : Nat} {w w' : World} (X : FsX) (h : Below w.heap.size w w') (hB : B ≤ w.heap.size) : FsUp B X w X w' := ⟨h.mono hB, fun k hk _ => h.block k hk, fun _ h => Or.inl h⟩
theorem rowM_kept {w w' : World} {B : Nat} {v : Value} {xs : List Value} (h : RowM w B v xs) (hs : w.heap.size ≤ w'.heap.size) (hk : ∀ k, v.ownBlock = some k → w'.heap[k]? = w.heap[k]?) : RowM w' B v xs := h.kept hs hk
theorem FileOk.kept {B : Nat} {X : FsX} {w w' : World} {s : Fs} {i : Nat} (h : FileOk B X w s i) (hk : ∀ k, X.T k = .file i ∨ X.T k = .data i → w'.heap[k]? = w.heap[k]?) (hs : w.heap.size ≤ w'.heap.size) : FileOk B X w' s i :=
  ⟨h.tb, h.tv, (hk _ (Or.inl h.tb)).trans h.blk, h.row.kept hs (fun k e => hk k (Or.inr (h.tv k e)))⟩
theorem row_kept {w w' : World} {B e sz n : Nat} {v : Value} {xs : List Value} (h : w.ownsRow B e sz v n xs) (hk : ∀ k, v.ownBlock = some k → w'.heap[k]? = w.heap[k]?) : w'.ownsRow B e sz v n xs := by
  refine ⟨h.1, ?_⟩
  rcases h.2 with h2 | ⟨b, cap, cur, e1, e2, e3, e4⟩
  · exact Or.inl h2
  · exact Or.inr ⟨b, cap, cur, e1, e2, (hk b (by rw [e1]; rfl)).trans e3, e4⟩
theorem FsAt.kept {B : Nat} {X : FsX} {w w' : World} {bf : Nat} {s : Fs} (h : FsAt B X w bf s) (hk : ∀ k, X.T k ≠ .no → w'.heap[k]? = w.heap[k]?) (hs : w.heap.size ≤ w'.heap.size) : FsAt B X w' bf s :=
  ⟨fun k ht => ⟨(h.dom k ht).1, Nat.lt_of_lt_of_le (h.dom k ht).2 hs⟩, h.tf, h.tn, h.td, h.tr, (hk _ (by rw [h.tf]; exact fun c => by cases c)).trans h.blk,
    h.mn.kept (hk _ (by rw [h.tn]; exact fun c => by cases c)), h.md.kept (hk _ (by rw [h.td]; exact fun c => by cases c)), h.hn, h.hd,
    row_kept h.row (fun k e => hk k (by rw [h.tr k e]; exact fun c => by cases c)), fun i hi => (h.fil i hi).kept (fun k e => hk k (by rcases e with e | e <;> rw [e] <;> exact fun c => by cases c)) hs⟩
theorem FsAt.below {B : Nat} {X : FsX} {w w' : World} {bf : Nat} {s : Fs} (h : FsAt B X w bf s) (hb : Below w.heap.size w w') : FsAt B X w' bf s :=
  h.kept (fun k ht => hb.block k (h.dom k ht).2) hb.size
theorem FsAt.drew {B : Nat} {X : FsX} {w : World} {bf : Nat} {s : Fs} (h : FsAt B X w bf s) (n : Nat) : FsAt B X (w.drewN n) bf s := h.kept (fun _ _ => rfl) (Nat.le_refl _)
theorem FsAt.bfB {B : Nat} {X : FsX} {w : World} {bf : Nat} {s : Fs} (h : FsAt B X w bf s) : B ≤ bf ∧ bf < w.heap.size := h.dom bf (by rw [h.tf]; exact fun c => by cases c)
/-- The file system's own record written: its steps, its rest of steps, how much is used. -/
theorem FsAt.reRow {B : Nat} {X : FsX} {w w' : World} {bf : Nat} {s s' : Fs} (h : FsAt B X w bf s) (hk : ∀ k, k ≠ bf → w'.heap[k]? = w.heap[k]?) (hz : w.heap.size ≤ w'.heap.size)
    (hb : w'.heap[bf]? = some (.cells (fsRow X s') 70 (0, 0))) (e1 : s'.files = s.files) (e2 : s'.now = s.now) (e3 : s'.sure = s.sure) (e4 : s'.acts = s.acts) (e5 : s.steps ≤ s'.steps) : FsAt B X w' bf s' := by
  have hne : ∀ k, X.T k ≠ .fs → w'.heap[k]? = w.heap[k]? := fun k ht => hk k (fun e => ht (by rw [e]; exact h.tf))
  refine ⟨fun k ht => ⟨(h.dom k ht).1, Nat.lt_of_lt_of_le (h.dom k ht).2 hz⟩, h.tf, h.tn, h.td, h.tr, hb, ?_, ?_, Nat.le_trans h.hn e5, ?_, ?_, fun i hi => ?_⟩
  · rw [e2]; exact h.mn.kept (hne _ (by rw [h.tn]; exact fun c => by cases c))
  · rw [e3]; exact h.md.kept (hne _ (by rw [h.td]; exact fun c => by cases c))
  · rw [e4]; exact Nat.le_trans h.hd e5
  · rw [e4]; exact row_kept h.row (fun k e => hne k (by rw [h.tr k e]; exact fun c => by cases c))
  · have hl : Live s i := by unfold Live at hi ⊢; rw [e3, e4] at hi; exact hi
    have hf := h.fil i hl
    refine ⟨hf.tb, hf.tv, ?_, ?_⟩
    · rw [e1]; exact (hne _ (by rw [hf.tb]; exact fun c => by cases c)).trans hf.blk
    · rw [e1]; exact hf.row.kept hz (fun k e => hne k (by rw [hf.tv k e]; exact fun c => by cases c))
/-- A store into the file system's own record. -/
theorem FsUp.set {B : Nat} {X : FsX} {w : World} {bf : Nat} {s : Fs} (h : FsAt B X w bf s) (i : Nat) (v : Value) : FsUp B X w X (w.setCell ⟨bf, i, none⟩ v) :=
  ⟨(Below.refl B w).setCell h.bfB.1 v, fun k _ ht => Below.heap_setCell w _ v k (fun e => by
    have e2 : k = bf := e
    rw [e2, h.tf] at ht; cases ht), fun _ h => Or.inl h⟩
theorem FsAt.cells {B : Nat} {X : FsX} {w : World} {bf : Nat} {s : Fs} (h : FsAt B X w bf s) :
    w.cell? ⟨bf, 0, none⟩ = some (.int .i64 (s.room : Int)) ∧ w.cell? ⟨bf, 1, none⟩ = some (.int .i64 (used s : Int)) ∧ w.cell? ⟨bf, 2, none⟩ = some (.map (some X.bn)) ∧ w.cell? ⟨bf, 3, none⟩ = some (.map (some X.bd)) ∧
      w.cell? ⟨bf, 4, none⟩ = some X.va ∧ w.cell? ⟨bf, 5, none⟩ = some (.int .i64 (stV s)) ∧ w.cell? ⟨bf, 6, none⟩ = some (.int .i64 s.more) := by
  have hb := h.blk
  unfold fsRow at hb
  exact ⟨by rw [cell_of_row _ _ _ _ _ _ hb]; rfl, by rw [cell_of_row _ _ _ _ _ _ hb]; rfl, by rw [cell_of_row _ _ _ _ _ _ hb]; rfl, by rw [cell_of_row _ _ _ _ _ _ hb]; rfl, by rw [cell_of_row _ _ _ _ _ _ hb]; rfl, by rw [cell_of_row _ _ _ _ _ _ hb]; rfl, by rw [cell_of_row _ _ _ _ _ _ hb]; rfl⟩
theorem FsAt.free {B : Nat} {X : FsX} {w : World} {bf : Nat} {s : Fs} (h : FsAt B X w bf s) (i : Nat) : w.frozen? ⟨bf, i, none⟩ = false := by
  unfold World.frozen?; rw [h.blk]; simp
/-- A block of cells with one cell written. -/
theorem cells_set {w : World} {b i : Nat} {cs : Array Value} {t : TypeId} (h : w.heap[b]? = some (.cells cs t (0, 0))) (v : Value) : (w.setCell ⟨b, i, none⟩ v).heap[b]? = some (.cells (cs.setIfInBounds i v) t (0, 0)) := by
  rw [heap_setCell_same w b i _ _ _ h]
/-- What a call leaves that writes block b alone. -/
structure Alone (b : Nat) (w w' : World) : Prop where
  os : w'.os = w.os
  tape : w'.tape = w.tape
  output : w'.output = w.output
  size : w.heap.size ≤ w'.heap.size
  block : ∀ k, k < w.heap.size → k ≠ b → w'.heap[k]? = w.heap[k]?
theorem Alone.refl (b : Nat) (w : World) : Alone b w w := ⟨rfl, rfl, rfl, Nat.le_refl _, fun _ _ _ => rfl⟩
theorem Alone.trans {b : Nat} {w w1 w2 : World} (h : Alone b w w1) (k : Alone b w1 w2) : Alone b w w2 :=
  ⟨k.os.trans h.os, k.tape.trans h.tape, k.output.trans h.output, Nat.le_trans h.size k.size, fun q hq hn => (k.block q (Nat.lt_of_lt_of_le hq h.size) hn).trans (h.block q hq hn)⟩
theorem Alone.of {b : Nat} {w w' : World} (h : w.grownBy w' (some b)) : Alone b w w' := ⟨h.os, h.tape, h.output, h.size, fun k hk hn => h.block k hk (fun e => hn (by injection e))⟩
theorem Alone.alloc (b : Nat) (w : World) (o : Obj) : Alone b w (w.alloc o) := ⟨rfl, rfl, rfl, by simp, fun k hk _ => Below.heap_alloc w o k hk⟩
theorem Alone.drewN (b : Nat) (w : World) (n : Nat) : Alone b w (w.drewN n) := ⟨rfl, rfl, rfl, Nat.le_refl _, fun _ _ _ => rfl⟩
theorem Alone.below {b B : Nat} {w w' : World} (h : Alone b w w') (hb : B ≤ b) (hB : B ≤ w.heap.size) : Below B w w' := ⟨h.os, h.tape, h.output, h.size, fun k hk => h.block k (Nat.lt_of_lt_of_le hk hB) (by omega)⟩
theorem Alone.set (b i : Nat) (w : World) (v : Value) : Alone b w (w.setCell ⟨b, i, none⟩ v) := ⟨rfl, rfl, rfl, by simp, fun k _ hn => Below.heap_setCell w _ v k hn⟩
theorem FsUp.alone {B : Nat} {X : FsX} {w w' : World} {bf : Nat} {s : Fs} (h : FsAt B X w bf s) (ha : Alone bf w w') : FsUp B X w X w' :=
  ⟨ha.below h.bfB.1 (Nat.le_of_lt (Nat.lt_of_le_of_lt h.bfB.1 h.bfB.2)), fun k hk ht => ha.block k hk (fun e => by rw [e, h.tf] at ht; cases ht), fun _ h => Or.inl h⟩
end Go.Proofs.YtgknihcpmpfocaaDoor
