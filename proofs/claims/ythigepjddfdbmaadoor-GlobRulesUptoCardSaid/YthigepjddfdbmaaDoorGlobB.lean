/- Sets of bytes as four words: mathematics; the walks of has, others, add, one. -/
import Derived.Test.YthigepjddfdbmaaDoorCells
import Derived.Laws.Bits64
import Derived.Test.YthigepjddfdbmaaDoorPathO
import Derived.Outline
import Derived.Deep.Cut
import Derived.Deep.Upon
import Derived.StillTailTactics
import Derived.IntWalk
namespace Go.Proofs.YthigepjddfdbmaaDoor
open Go.RowKit Go.Lib

/-- Four words. -/
structure S4 where
  a : Nat
  b : Nat
  c : Nat
  d : Nat
def S4.get (s : S4) (k : Nat) : Nat := if k = 0 then s.a else if k = 1 then s.b else if k = 2 then s.c else s.d
def S4.put (s : S4) (k v : Nat) : S4 := if k = 0 then ⟨v, s.b, s.c, s.d⟩ else if k = 1 then ⟨s.a, v, s.c, s.d⟩ else if k = 2 then ⟨s.a, s.b, v, s.d⟩ else ⟨s.a, s.b, s.c, v⟩
def S4.cells (s : S4) : List Value := [.int .u64 (s.a : Int), .int .u64 (s.b : Int), .int .u64 (s.c : Int), .int .u64 (s.d : Int)]
/-- Words that they can be. -/
def S4.Ok (s : S4) : Prop := ∀ k, s.get k < 2 ^ 64
def hasS (s : S4) (c : Nat) : Bool := (s.get (c / 64)).testBit (c % 64)
def addOne (s : S4) (c : Nat) : S4 := s.put (c / 64) (s.get (c / 64) ||| 1 <<< (c % 64))
def addUp (s : S4) (x : Nat) : Nat → S4
  | 0 => s
  | n + 1 => addOne (addUp s x n) (x + n)
def noneS : S4 := ⟨0, 0, 0, 0⟩
def othersS (s : S4) : S4 := ⟨2 ^ 64 - 1 - s.a, 2 ^ 64 - 1 - s.b, 2 ^ 64 - 1 - s.c, 2 ^ 64 - 1 - s.d⟩
theorem get_put (s : S4) {k : Nat} (hk : k < 4) (v j : Nat) (hj : j < 4) : (s.put k v).get j = if j = k then v else s.get j := by
  have h : k = 0 ∨ k = 1 ∨ k = 2 ∨ k = 3 := by omega
  have h2 : j = 0 ∨ j = 1 ∨ j = 2 ∨ j = 3 := by omega
  rcases h with rfl | rfl | rfl | rfl <;> rcases h2 with rfl | rfl | rfl | rfl <;> rfl
theorem get_all (s : S4) (k : Nat) : s.get k = s.get 0 ∨ s.get k = s.get 1 ∨ s.get k = s.get 2 ∨ s.get k = s.get 3 := by
  unfold S4.get
  by_cases h0 : k = 0
  · subst h0; exact Or.inl rfl
  · by_cases h1 : k = 1
    · subst h1; exact Or.inr (Or.inl rfl)
    · by_cases h2 : k = 2
      · subst h2; exact Or.inr (Or.inr (Or.inl rfl))
      · exact Or.inr (Or.inr (Or.inr (by simp [h0, h1, h2])))
theorem ok_of {s : S4} (h : ∀ k, k < 4 → s.get k < 2 ^ 64) : s.Ok := fun k => by
  rcases get_all s k with e | e | e | e <;> rw [e]
  · exact h 0 (by omega)
  · exact h 1 (by omega)
  · exact h 2 (by omega)
  · exact h 3 (by omega)
theorem one_shl {m : Nat} (h : m < 64) : 1 <<< m < 2 ^ 64 := by rw [Nat.one_shiftLeft]; exact Nat.pow_lt_pow_right (by omega) h
theorem addOne_ok {s : S4} (h : s.Ok) {c : Nat} (hc : c < 256) : (addOne s c).Ok := by
  refine ok_of (fun j hj => ?_)
  unfold addOne
  rw [get_put s (by omega) _ j hj]
  split
  · exact Nat.or_lt_two_pow (h _) (one_shl (by omega))
  · exact h j
theorem has_addOne {s : S4} {c e : Nat} (hc : c < 256) (he : e < 256) : hasS (addOne s c) e = (hasS s e || decide (e = c)) := by
  unfold hasS addOne
  rw [get_put s (by omega) _ _ (by omega)]
  by_cases h : e / 64 = c / 64
  · rw [if_pos h, Nat.testBit_or, Nat.testBit_shiftLeft, h]
    congr 1
    by_cases h2 : e = c
    · subst h2; simp
    · rw [decide_eq_false h2]
      by_cases h3 : c % 64 ≤ e % 64
      · have h4 : e % 64 - c % 64 ≠ 0 := by omega
        obtain ⟨n, hn⟩ := Nat.exists_eq_succ_of_ne_zero h4
        rw [hn]; simp [Nat.testBit_succ]
      · simp [h3]
  · rw [if_neg h, decide_eq_false (fun h2 => h (by rw [h2])), Bool.or_false]
theorem addUp_ok {s : S4} (h : s.Ok) {x : Nat} : ∀ n, x + n ≤ 256 → (addUp s x n).Ok
  | 0, _ => h
  | n + 1, hn => addOne_ok (addUp_ok h n (by omega)) (by omega)
theorem has_addUp {s : S4} {x e : Nat} (he : e < 256) : ∀ n, x + n ≤ 256 → hasS (addUp s x n) e = (hasS s e || decide (x ≤ e ∧ e < x + n))
  | 0, _ => by
    rw [decide_eq_false (by omega), Bool.or_false]; rfl
  | n + 1, hn => by
    show hasS (addOne (addUp s x n) (x + n)) e = _
    rw [has_addOne (by omega) he, has_addUp he n (by omega), Bool.or_assoc]
    congr 1
    rw [Bool.eq_iff_iff, Bool.or_eq_true, decide_eq_true_eq, decide_eq_true_eq, decide_eq_true_eq]
    omega
theorem none_ok : noneS.Ok := ok_of (fun k hk => by
  have h : k = 0 ∨ k = 1 ∨ k = 2 ∨ k = 3 := by omega
  rcases h with rfl | rfl | rfl | rfl <;> decide)
theorem has_none (e : Nat) : hasS noneS e = false := by
  unfold hasS
  rcases get_all noneS (e / 64) with h | h | h | h <;> rw [h] <;> exact Nat.zero_testBit _
theorem others_get (s : S4) (k : Nat) : (othersS s).get k = 2 ^ 64 - 1 - s.get k := by
  unfold S4.get othersS
  split
  · rfl
  · split
    · rfl
    · split <;> rfl
theorem others_ok (s : S4) : (othersS s).Ok := fun k => by rw [others_get]; omega
theorem has_others {s : S4} (h : s.Ok) {e : Nat} : hasS (othersS s) e = !hasS s e := by
  unfold hasS
  rw [others_get]
  have := h (e / 64)
  generalize s.get (e / 64) = v at *
  have e1 : 2 ^ 64 - 1 - v = 2 ^ 64 - (v + 1) := by omega
  rw [e1, Nat.testBit_two_pow_sub_succ this]
  have : e % 64 < 64 := by omega
  simp [this]
/-- One word of the four, in memory. -/
theorem S4.cell {w : World} {b o : Nat} {s : S4} (h : ∀ j u, s.cells[j]? = some u → w.cell? ⟨b, o + j, none⟩ = some u) {k : Nat} (hk : k < 4) : w.cell? ⟨b, o + k, none⟩ = some (.int .u64 (s.get k : Int)) := by
  have hh : k = 0 ∨ k = 1 ∨ k = 2 ∨ k = 3 := by omega
  rcases hh with rfl | rfl | rfl | rfl <;> exact h _ _ rfl
theorem and_one (x m : Nat) (hx : x < 2 ^ 64) : bits .and .u64 ((x : Int) / 2 ^ m) 1 = if x.testBit m then 1 else 0 := by
  have h1 : ((x : Int) / 2 ^ m) = ((x / 2 ^ m : Nat) : Int) := by simp
  have hb : x / 2 ^ m < 2 ^ 64 := Nat.lt_of_le_of_lt (Nat.div_le_self _ _) hx
  rw [h1]
  generalize hv : x / 2 ^ m = v at *
  have e1 : (BitVec.ofInt 64 (v : Int)).toNat = v := by
    rw [BitVec.ofInt_natCast, BitVec.toNat_ofNat]; exact Nat.mod_eq_of_lt hb
  have e2 : (BitVec.ofInt 64 (1 : Int)).toNat = 1 := by decide
  show IntKind.u64.wrap ((BitVec.ofInt 64 (v : Int) &&& BitVec.ofInt 64 (1 : Int)).toNat : Int) = _
  rw [BitVec.toNat_and, e1, e2, Nat.and_one_is_mod]
  have e3 : x.testBit m = decide (v % 2 = 1) := by
    rw [Nat.testBit_eq_decide_div_mod_eq, hv]
  rw [e3]
  have h4 : v % 2 = 0 ∨ v % 2 = 1 := by omega
  rcases h4 with h4 | h4 <;> rw [h4] <;> simp [IntKind.wrap, IntKind.bits, IntKind.signed]
set_option maxRecDepth 100000 in
set_option maxHeartbeats 1000000 in
theorem has_any (s : S4) (c : Nat) (w : World) (hs : s.Ok) (hc : c < 256) :
    Calls Tryd.prog 60 #[.agg s.cells.toArray, .int .u8 (c : Int)] w fun e w' => e = .returned (.bool (hasS s c)) ∧ Below w.heap.size w w' := by
  obtain ⟨q, hq⟩ : ∃ q : Nat, c / 64 = q := ⟨_, rfl⟩
  obtain ⟨m, hm⟩ : ∃ m : Nat, c % 64 = m := ⟨_, rfl⟩
  have hq1 : (c : Int) / 64 = (q : Int) := by omega
  have hm1 : (c : Int) % 64 = (m : Int) := by omega
  have hq3 : q < 4 := by omega
  have hm3 : m < 64 := by omega
  have hci : (c : Int) ≤ 255 := by omega
  have hk := new_five w s.cells.toArray 98
  have HC : Hid ((w.alloc (.cells s.cells.toArray 98)).cell? ⟨w.heap.size, q, none⟩ = some (.int .u64 (s.get q : Int))) := Lib.hid (by
    have := S4.cell (w := w.alloc (.cells s.cells.toArray 98)) (b := w.heap.size) (o := 0) (s := s) (fun j u hj => by rw [cell_of_row _ _ _ _ _ _ hk, Nat.zero_add]; simpa using hj) hq3
    rwa [Nat.zero_add] at this)
  have HV : Hid ((bits .and .u64 ((s.get q : Int) / 2 ^ m) 1 == 1) = hasS s c) := Lib.hid (by
    rw [and_one _ _ (hs q)]
    unfold hasS
    rw [hq, hm]
    cases (s.get q).testBit m <;> rfl)
  have HB : Hid (Below w.heap.size w (w.alloc (.cells s.cells.toArray 98))) := Lib.hid ((Below.refl _ w).alloc (Nat.le_refl _) _)
  unfold S4.cells at HC HB ⊢
  generalize s.get q = x at *
  generalize hasS s c = r at *
  clear hq hm hk
  go_enter Tryd.func60, Tryd.ntmps60
  go_upto_region 1 with fail
  have c1 := HC.out
  generalize w.alloc _ = wx at *
  have hv := HV.out
  go_wp2_with fail
  go_ret
  exact ⟨rfl, HB.out⟩
/-- Four words in memory, to be changed. -/
structure SAt (w : World) (b o : Nat) (s : S4) : Prop where
  cs : ∀ j u, s.cells[j]? = some u → w.cell? ⟨b, o + j, none⟩ = some u
  fr : ∀ j, w.frozen? ⟨b, j, none⟩ = false
/-- Only some cells of one block have turned. -/
structure Touch (b o n : Nat) (w w' : World) : Prop where
  os : w'.os = w.os
  tape : w'.tape = w.tape
  output : w'.output = w.output
  size : w'.heap.size = w.heap.size
  far : ∀ k, k ≠ b → w'.heap[k]? = w.heap[k]?
  near : ∀ j, (j < o ∨ o + n ≤ j) → w'.cell? ⟨b, j, none⟩ = w.cell? ⟨b, j, none⟩
  fr : ∀ j, w'.frozen? ⟨b, j, none⟩ = w.frozen? ⟨b, j, none⟩
theorem Touch.refl (b o n : Nat) (w : World) : Touch b o n w w := ⟨rfl, rfl, rfl, rfl, fun _ _ => rfl, fun _ _ => rfl, fun _ => rfl⟩
theorem Touch.drewN {b o n : Nat} {w w' : World} (h : Touch b o n w w') (k : Nat) : Touch b o n w (w'.drewN k) := ⟨h.os, h.tape, h.output, h.size, h.far, h.near, h.fr⟩
theorem Touch.trans {b o n : Nat} {w w' w2 : World} (h : Touch b o n w w') (k : Touch b o n w' w2) : Touch b o n w w2 :=
  ⟨k.os.trans h.os, k.tape.trans h.tape, k.output.trans h.output, k.size.trans h.size, fun j hj => (k.far j hj).trans (h.far j hj), fun j hj => (k.near j hj).trans (h.near j hj), fun j => (k.fr j).trans (h.fr j)⟩
theorem Touch.set {b o n : Nat} {w w' : World} (h : Touch b o n w w') {i : Nat} (hi : i < n) (u : Value) : Touch b o n w (w'.setCell ⟨b, o + i, none⟩ u) := by
  refine h.trans ⟨rfl, rfl, rfl, by simp [World.setCell], fun k hk => Below.heap_setCell w' ⟨b, o + i, none⟩ u k hk, fun j hj => ?_, fun j => World.frozen?_setCell _ _ _ _⟩
  exact World.cell?_setCell_other _ _ _ _ (by intro c; injection c with _ c _; omega)
theorem Touch.below {b o n B : Nat} {w w' : World} (h : Touch b o n w w') (hb : B ≤ b) : Below B w w' := ⟨h.os, h.tape, h.output, by rw [h.size]; exact Nat.le_refl _, fun k hk => h.far k (by omega)⟩
theorem cells_put (s : S4) {k : Nat} (hk : k < 4) (v : Nat) (j : Nat) : (s.put k v).cells[j]? = if j = k then some (.int .u64 (v : Int)) else s.cells[j]? := by
  have h : k = 0 ∨ k = 1 ∨ k = 2 ∨ k = 3 := by omega
  rcases h with rfl | rfl | rfl | rfl <;> match j with
  | 0 => rfl
  | 1 => rfl
  | 2 => rfl
  | 3 => rfl
  | (n + 4) => rfl
theorem SAt.put {w : World} {b o : Nat} {s : S4} (h : SAt w b o s) {k : Nat} (hk : k < 4) (v : Nat) : SAt (w.setCell ⟨b, o + k, none⟩ (.int .u64 (v : Int))) b o (s.put k v) := by
  refine ⟨fun j u hj => ?_, fun j => by rw [World.frozen?_setCell]; exact h.fr j⟩
  rw [cells_put s hk] at hj
  split at hj
  · rename_i e
    subst e
    injection hj with hj
    subst hj
    exact World.cell?_setCell_same _ _ _ (S4.cell h.cs hk)
  · rename_i e
    rw [World.cell?_setCell_other _ _ _ _ (by intro c; injection c with _ c _; omega)]
    exact h.cs j u hj
theorem SAt.drewN {w : World} {b o : Nat} {s : S4} (h : SAt w b o s) (n : Nat) : SAt (w.drewN n) b o s := ⟨h.cs, h.fr⟩
theorem shl_one {m : Nat} (hm : m < 64) : IntKind.u64.wrap ((1 : Int) * 2 ^ m) = ((1 <<< m : Nat) : Int) := by
  have h := one_shl hm
  rw [IntKind.wrap_u64]
  rw [Nat.one_shiftLeft] at h ⊢
  have : ((1 : Int) * 2 ^ m) = ((2 ^ m : Nat) : Int) := by simp
  rw [this]
  generalize 2 ^ m = z at *
  omega
theorem or_u64 (x m : Nat) (hx : x < 2 ^ 64) (hm : m < 64) : bits .or .u64 (x : Int) (IntKind.u64.wrap ((2 : Int) ^ m)) = ((x ||| 1 <<< m : Nat) : Int) := by
  rw [show ((2 : Int) ^ m) = 1 * 2 ^ m by simp, shl_one hm]
  have hy := one_shl hm
  generalize 1 <<< m = y at *
  have hb : x ||| y < 2 ^ 64 := Nat.or_lt_two_pow hx hy
  have e1 : (BitVec.ofInt 64 (x : Int)).toNat = x := by
    rw [BitVec.ofInt_natCast, BitVec.toNat_ofNat]; exact Nat.mod_eq_of_lt hx
  have e2 : (BitVec.ofInt 64 (y : Int)).toNat = y := by
    rw [BitVec.ofInt_natCast, BitVec.toNat_ofNat]; exact Nat.mod_eq_of_lt hy
  show IntKind.u64.wrap ((BitVec.ofInt 64 (x : Int) ||| BitVec.ofInt 64 (y : Int)).toNat : Int) = _
  rw [BitVec.toNat_or, e1, e2, IntKind.wrap_u64]
  omega
set_option maxRecDepth 100000 in
set_option maxHeartbeats 2000000 in
theorem add_any (b o : Nat) (s : S4) (x y : Nat) (w : World) (hs : s.Ok) (h : SAt w b o s) (hx : x < 256) (hy : y < 256) :
    Calls Tryd.prog 75 #[.pointer (some ⟨b, o, none⟩), .int .u8 (x : Int), .int .u8 (y : Int)] w fun e w' => e = .returned (.tuple #[]) ∧ SAt w' b o (addUp s x (y + 1 - x)) ∧ Touch b o 4 w w' := by
  have HS := Lib.hid hs
  have HA := Lib.hid h
  have hx2 : (x : Int) ≤ 255 := by omega
  have hy2 : (y : Int) ≤ 255 := by omega
  clear h hs
  go_enter Tryd.func75, Tryd.ntmps75
  go_wp2_with fail
  go_loopw [6] (fun i wr => ∃ n : Nat, n ≤ y + 1 - x ∧ i = .int .i64 ((x + n : Nat) : Int) ∧ Hid (SAt wr b o (addUp s x n)) ∧ Hid (Touch b o 4 w wr)) (fun i _ => y + 1 - (intOf i).toNat)
  case atStart => exact ⟨0, Nat.zero_le _, by simp, HA, Lib.hid (Touch.refl _ _ _ _)⟩
  case round =>
    obtain ⟨n, hn, rfl, hA, hT⟩ := hrel
    obtain ⟨c, hc⟩ : ∃ c, x + n = c := ⟨_, rfl⟩
    have HC := Lib.hid hc
    have hcn : n = c - x := by omega
    have hcx : x ≤ c := by omega
    rw [hc]
    clear hc
    by_cases hlt : c ≤ y
    · obtain ⟨q, hq⟩ : ∃ q : Nat, c / 64 = q := ⟨_, rfl⟩
      obtain ⟨m, hm⟩ : ∃ m : Nat, c % 64 = m := ⟨_, rfl⟩
      have hq1 : (c : Int) / 64 = (q : Int) := by omega
      have hm1 : (c : Int) % 64 = (m : Int) := by omega
      have hq2 : (c : Int).tdiv 64 = (q : Int) := by rw [Int.tdiv_eq_ediv_of_nonneg (by omega)]; exact hq1
      have hm2 : (c : Int).tmod 64 = (m : Int) := by rw [Int.tmod_eq_emod_of_nonneg (by omega)]; exact hm1
      have hq3 : q < 4 := by omega
      have hm3 : m < 64 := by omega
      have hci : (c : Int) ≤ 255 := by omega
      have c1 := S4.cell hA.out.cs hq3
      have f1 := hA.out.fr (o + q)
      have HV := or_u64 ((addUp s x n).get q) m (addUp_ok HS.out n (by omega) q) hm3
      obtain ⟨v, hv⟩ : ∃ v, ((addUp s x n).get q ||| 1 <<< m) = v := ⟨_, rfl⟩
      rw [hv] at HV
      have HAD : Hid (addUp s x (n + 1) = (addUp s x n).put q v) := Lib.hid (by
        show addOne (addUp s x n) (x + n) = _
        unfold addOne
        rw [HC.out, hq, hm, hv])
      have HQ := Lib.hid hq
      have HM := Lib.hid hm
      have HVV := Lib.hid hv
      clear hq hm hv hcn
      generalize (addUp s x n).get q = g at *
      have hwq : IntKind.i64.wrap (q : Int) = (q : Int) := IntWalk.i64_in _ (by omega)
      have hwm : IntKind.i64.wrap (m : Int) = (m : Int) := IntWalk.i64_in _ (by omega)
      have hqa : (0 : Int) ≤ (q : Int) := by omega
      have hqb : (q : Int) < 4 := by omega
      have hma : (0 : Int) ≤ (m : Int) := by omega
      have hmb : (m : Int) < 64 := by omega
      have hmc : (m : Int) ≤ 64 := by omega
      go_upto_region 3 with fail
      go_still_tail 12, (by kernel_rfl)
      change wpList _ _ _ _ _ (wr.drewN 1)
      have hA2 := Lib.hid (hA.out.drewN 1)
      have hT2 := Lib.hid (hT.out.drewN 1)
      clear c1
      generalize wr.drewN 1 = wd at *
      have f2 := hA2.out.fr (o + q)
      have c2 := S4.cell hA2.out.cs hq3
      go_wp2_with fail
      go_roundw
      case rel => exact ⟨n + 1, by have := HC.out; omega, by have := HC.out; rw [show ((x + (n + 1) : Nat) : Int) = (c : Int) + 1 by omega], Lib.hid (by rw [HAD.out]; exact hA2.out.put hq3 v), Lib.hid (hT2.out.set hq3 _)⟩
      case measure => simp [intOf]; omega
    · have HN : Hid (y + 1 - x = n) := Lib.hid (by omega)
      go_wp2_with fail
      go_end0
      exact ⟨rfl, by rw [HN.out]; exact hA.out, hT.out⟩
theorem frozen_box {w : World} {b : Nat} {cs : Array Value} {t : TypeId} (h : w.heap[b]? = some (.cells cs t (0, 0))) (q : Nat) : w.frozen? ⟨b, q, none⟩ = false := by
  unfold World.frozen?; simp [h]
theorem set4_cells {w : World} {b : Nat} {x0 x1 x2 x3 : Value} (h0 : w.cell? ⟨b, 0, none⟩ = some x0) (h1 : w.cell? ⟨b, 1, none⟩ = some x1) (h2 : w.cell? ⟨b, 2, none⟩ = some x2) (h3 : w.cell? ⟨b, 3, none⟩ = some x3) (v0 v1 v2 v3 : Value) :
    ((((w.setCell ⟨b, 0, none⟩ v0).setCell ⟨b, 1, none⟩ v1).setCell ⟨b, 2, none⟩ v2).setCell ⟨b, 3, none⟩ v3).cell? ⟨b, 0, none⟩ = some v0 ∧ ((((w.setCell ⟨b, 0, none⟩ v0).setCell ⟨b, 1, none⟩ v1).setCell ⟨b, 2, none⟩ v2).setCell ⟨b, 3, none⟩ v3).cell? ⟨b, 1, none⟩ = some v1 ∧
      ((((w.setCell ⟨b, 0, none⟩ v0).setCell ⟨b, 1, none⟩ v1).setCell ⟨b, 2, none⟩ v2).setCell ⟨b, 3, none⟩ v3).cell? ⟨b, 2, none⟩ = some v2 ∧ ((((w.setCell ⟨b, 0, none⟩ v0).setCell ⟨b, 1, none⟩ v1).setCell ⟨b, 2, none⟩ v2).setCell ⟨b, 3, none⟩ v3).cell? ⟨b, 3, none⟩ = some v3 := by
  have o : ∀ (W : World) (i j : Nat) (v : Value), i ≠ j → (W.setCell ⟨b, i, none⟩ v).cell? ⟨b, j, none⟩ = W.cell? ⟨b, j, none⟩ := fun W i j v h => World.cell?_setCell_other _ _ _ _ (by intro c; injection c with _ c _; omega)
  have s : ∀ (W : World) (i : Nat) (v x : Value), W.cell? ⟨b, i, none⟩ = some x → (W.setCell ⟨b, i, none⟩ v).cell? ⟨b, i, none⟩ = some v := fun W i v x h => World.cell?_setCell_same _ _ _ h
  refine ⟨?_, ?_, ?_, ?_⟩
  · rw [o _ 3 0 _ (by omega), o _ 2 0 _ (by omega), o _ 1 0 _ (by omega)]; exact s _ _ _ _ h0
  · rw [o _ 3 1 _ (by omega), o _ 2 1 _ (by omega)]; exact s _ _ _ _ (by rw [o _ 0 1 _ (by omega)]; exact h1)
  · rw [o _ 3 2 _ (by omega)]; exact s _ _ _ _ (by rw [o _ 1 2 _ (by omega), o _ 0 2 _ (by omega)]; exact h2)
  · exact s _ _ _ _ (by rw [o _ 2 3 _ (by omega), o _ 1 3 _ (by omega), o _ 0 3 _ (by omega)]; exact h3)
theorem SAt.of_new {w : World} {s : S4} : SAt (w.alloc (.cells s.cells.toArray 98)) w.heap.size 0 s := by
  have hk := new_five w s.cells.toArray 98
  exact ⟨fun j u hj => by rw [cell_of_row _ _ _ _ _ _ hk, Nat.zero_add]; simpa using hj, fun j => frozen_box hk j⟩
theorem xor_all (g : Nat) (hg : g < 2 ^ 64) : bits .xor .u64 (if IntKind.u64.signed = true then -1 else IntKind.u64.max) (g : Int) = ((2 ^ 64 - 1 - g : Nat) : Int) := by
  have e : (if IntKind.u64.signed = true then (-1 : Int) else IntKind.u64.max) = ((2 ^ 64 - 1 : Nat) : Int) := by decide
  have e2 : ((2 ^ 64 - 1) ^^^ g : Nat) = 2 ^ 64 - 1 - g := by
    apply Nat.eq_of_testBit_eq
    intro i
    have e1 : 2 ^ 64 - 1 - g = 2 ^ 64 - (g + 1) := by omega
    rw [e1, Nat.testBit_two_pow_sub_succ hg, Nat.testBit_xor, Nat.testBit_two_pow_sub_one]
    by_cases h : i < 64
    · simp [h]
    · have h2 : g.testBit i = false := Nat.testBit_lt_two_pow (Nat.lt_of_lt_of_le hg (Nat.pow_le_pow_right (by omega) (by omega)))
      simp [h, h2]
  rw [e, ← e2]
  exact bits_xor_u64_nat _ _ (by decide) hg
/-- The first of the words turned over. -/
def othersTo (s : S4) : Nat → S4
  | 0 => s
  | n + 1 => (othersTo s n).put n (2 ^ 64 - 1 - (othersTo s n).get n)
theorem othersTo_all (s : S4) : othersTo s 4 = othersS s := rfl
theorem othersTo_ok {s : S4} (h : s.Ok) : ∀ n, n ≤ 4 → (othersTo s n).Ok
  | 0, _ => h
  | n + 1, hn => ok_of (fun j hj => by
    show ((othersTo s n).put n _).get j < _
    rw [get_put _ (by omega) _ j hj]
    split
    · omega
    · exact othersTo_ok h n (by omega) j)
set_option maxRecDepth 100000 in
set_option maxHeartbeats 2000000 in
theorem others_any (s : S4) (w : World) (hs : s.Ok) :
    Calls Tryd.prog 67 #[.agg s.cells.toArray] w fun e w' => e = .returned (.agg (othersS s).cells.toArray) ∧ Below w.heap.size w w' := by
  have HS := Lib.hid hs
  have hA : Hid (SAt (w.alloc (.cells s.cells.toArray 98)) w.heap.size 0 s) := Lib.hid SAt.of_new
  go_enter Tryd.func67, Tryd.ntmps67
  have hB2 : Hid (Below w.heap.size w ((w.alloc (.cells s.cells.toArray 98)).alloc (.cells #[.int .u64 0, .int .u64 0, .int .u64 0, .int .u64 0] 98))) := Lib.hid (((Below.refl _ w).alloc (Nat.le_refl _) _).alloc (by simp) _)
  have hA2 : Hid (SAt ((w.alloc (.cells s.cells.toArray 98)).alloc (.cells #[.int .u64 0, .int .u64 0, .int .u64 0, .int .u64 0] 98)) w.heap.size 0 s) := Lib.hid (by
    have hb : ((w.alloc (.cells s.cells.toArray 98)).alloc (.cells #[.int .u64 0, .int .u64 0, .int .u64 0, .int .u64 0] 98)).heap[w.heap.size]? = (w.alloc (.cells s.cells.toArray 98)).heap[w.heap.size]? := Below.heap_alloc _ _ _ (by simp)
    exact ⟨fun j u hj => (World.cell?_of_block hb).trans (hA.out.cs j u hj), fun j => (World.frozen?_of_block hb).trans (hA.out.fr j)⟩)
  have hR2 : Hid (SAt ((w.alloc (.cells s.cells.toArray 98)).alloc (.cells #[.int .u64 0, .int .u64 0, .int .u64 0, .int .u64 0] 98)) (w.heap.size + 1) 0 noneS) := Lib.hid (by
    have := SAt.of_new (w := w.alloc (.cells s.cells.toArray 98)) (s := noneS)
    have e : (w.alloc (.cells s.cells.toArray 98)).heap.size = w.heap.size + 1 := by simp
    rw [e] at this
    exact this)
  go_wp2_with fail
  generalize (w.alloc (.cells s.cells.toArray 98)).alloc (.cells #[.int .u64 0, .int .u64 0, .int .u64 0, .int .u64 0] 98) = wz at *
  obtain ⟨b1, hb1⟩ : ∃ q, w.heap.size = q := ⟨_, rfl⟩
  have HB1 := Lib.hid hb1
  rw [hb1] at hA2 hR2 ⊢
  clear hA hb1
  go_loopw [4] (fun i wr => ∃ k : Nat, k ≤ 4 ∧ i = .int .i64 k ∧ Hid (SAt wr b1 0 (othersTo s k)) ∧ Hid (Touch b1 0 4 wz wr)) (fun i _ => 4 - (intOf i).toNat)
  case atStart => exact ⟨0, Nat.zero_le _, rfl, hA2, Lib.hid (Touch.refl _ _ _ _)⟩
  case round =>
    obtain ⟨k, hk, rfl, hA, hT⟩ := hrel
    by_cases hlt : k < 4
    · have c1 := S4.cell hA.out.cs hlt
      have f1 := hA.out.fr (0 + k)
      rw [Nat.zero_add] at c1 f1
      have hok := othersTo_ok HS.out k hk k
      have HO : Hid (othersTo s (k + 1) = (othersTo s k).put k (2 ^ 64 - 1 - (othersTo s k).get k)) := Lib.hid rfl
      generalize (othersTo s k).get k = g at *
      have HOK := Lib.hid hok
      clear hok
      go_wp2_with fail
      go_roundw
      case rel => exact ⟨k + 1, by omega, by go_num, Lib.hid (by
        rw [HO.out, xor_all _ HOK.out]
        have := hA.out.put hlt (2 ^ 64 - 1 - g)
        rwa [Nat.zero_add] at this), Lib.hid (by
        have := hT.out.set hlt (.int .u64 (bits BinOp.xor IntKind.u64 (if IntKind.u64.signed = true then -1 else IntKind.u64.max) ↑g))
        rwa [Nat.zero_add] at this)⟩
      case measure => simp [intOf]; omega
    · have hk4 : k = 4 := by omega
      subst hk4
      have c0 := hA.out.cs 0 _ rfl
      have c1 := hA.out.cs 1 _ rfl
      have c2 := hA.out.cs 2 _ rfl
      have c3 := hA.out.cs 3 _ rfl
      rw [othersTo_all] at c0 c1 c2 c3
      have hB3 : Hid (Below w.heap.size w wr) := Lib.hid (hB2.out.trans (hT.out.below (by have := HB1.out; omega)))
      obtain ⟨b2, hb2⟩ : ∃ q, b1 + 1 = q := ⟨_, rfl⟩
      have hbe : b2 = w.heap.size + 1 := by have := HB1.out; omega
      have hne : b2 ≠ b1 := by omega
      have HNE := Lib.hid hne
      have HBE := Lib.hid hbe
      rw [hb2] at hR2 ⊢
      have hz : wr.heap[b2]? = wz.heap[b2]? := hT.out.far b2 hne
      have R2 : SAt wr b2 0 noneS := ⟨fun j u hj => (World.cell?_of_block hz).trans (hR2.out.cs j u hj), fun j => (World.frozen?_of_block hz).trans (hR2.out.fr j)⟩
      have r0 := R2.cs 0 _ rfl
      have r1 := R2.cs 1 _ rfl
      have r2 := R2.cs 2 _ rfl
      have r3 := R2.cs 3 _ rfl
      have q0 := R2.fr 0
      have q1 := R2.fr 1
      have q2 := R2.fr 2
      have q3 := R2.fr 3
      obtain ⟨s2, hs2⟩ : ∃ s2, othersS s = s2 := ⟨_, rfl⟩
      rw [hs2] at c0 c1 c2 c3
      have HS2 := Lib.hid hs2
      clear hs2
      clear hb2 hne hbe hz R2 hR2
      go_wp2_with fail
      obtain ⟨z0, z1, z2, z3⟩ := set4_cells r0 r1 r2 r3 (.int .u64 (s2.a : Int)) (.int .u64 (s2.b : Int)) (.int .u64 (s2.c : Int)) (.int .u64 (s2.d : Int))
      refine bodyPost_ret (v := .agg #[.int .u64 (s2.a : Int), .int .u64 (s2.b : Int), .int .u64 (s2.c : Int), .int .u64 (s2.d : Int)]) (by simp [results, Tryd.results67, go_sem, z0, z1, z2, z3]) rfl ⟨by rw [HS2.out]; rfl, ?_⟩
      have hb2 : w.heap.size ≤ b2 := by have := HBE.out; omega
      exact (((hB3.out.setCell hb2 _).setCell hb2 _).setCell hb2 _).setCell hb2 _
/-- A sign: any number of bytes (none), or one of a set. -/
def signV : Option S4 → Value
  | none => .agg #[.bool true, .int .u64 0, .int .u64 0, .int .u64 0, .int .u64 0]
  | some s => .agg #[.bool false, .int .u64 (s.a : Int), .int .u64 (s.b : Int), .int .u64 (s.c : Int), .int .u64 (s.d : Int)]
theorem set5_cells {w : World} {b : Nat} {x0 x1 x2 x3 x4 : Value} (h0 : w.cell? ⟨b, 0, none⟩ = some x0) (h1 : w.cell? ⟨b, 1, none⟩ = some x1) (h2 : w.cell? ⟨b, 2, none⟩ = some x2) (h3 : w.cell? ⟨b, 3, none⟩ = some x3) (h4 : w.cell? ⟨b, 4, none⟩ = some x4) (v0 v1 v2 v3 v4 : Value) :
    let w' := ((((w.setCell ⟨b, 0, none⟩ v0).setCell ⟨b, 1, none⟩ v1).setCell ⟨b, 2, none⟩ v2).setCell ⟨b, 3, none⟩ v3).setCell ⟨b, 4, none⟩ v4
    w'.cell? ⟨b, 0, none⟩ = some v0 ∧ w'.cell? ⟨b, 1, none⟩ = some v1 ∧ w'.cell? ⟨b, 2, none⟩ = some v2 ∧ w'.cell? ⟨b, 3, none⟩ = some v3 ∧ w'.cell? ⟨b, 4, none⟩ = some v4 := by
  have o : ∀ (W : World) (i j : Nat) (v : Value), i ≠ j → (W.setCell ⟨b, i, none⟩ v).cell? ⟨b, j, none⟩ = W.cell? ⟨b, j, none⟩ := fun W i j v h => World.cell?_setCell_other _ _ _ _ (by intro c; injection c with _ c _; omega)
  obtain ⟨a0, a1, a2, a3⟩ := set4_cells h0 h1 h2 h3 v0 v1 v2 v3
  refine ⟨?_, ?_, ?_, ?_, ?_⟩
  · rw [o _ 4 0 _ (by omega)]; exact a0
  · rw [o _ 4 1 _ (by omega)]; exact a1
  · rw [o _ 4 2 _ (by omega)]; exact a2
  · rw [o _ 4 3 _ (by omega)]; exact a3
  · exact World.cell?_setCell_same _ _ _ (by rw [o _ 3 4 _ (by omega), o _ 2 4 _ (by omega), o _ 1 4 _ (by omega), o _ 0 4 _ (by omega)]; exact h4)
set_option maxRecDepth 100000 in
set_option maxHeartbeats 2000000 in
theorem one_any (c : Nat) (w : World) (hc : c < 256) :
    Calls Tryd.prog 69 #[.int .u8 (c : Int)] w fun e w' => e = .returned (signV (some (addOne noneS c))) ∧ Below w.heap.size w w' := by
  have hk0 : ((w.alloc (.cells #[.bool false, .int .u64 0, .int .u64 0, .int .u64 0, .int .u64 0] 100)).alloc (.cells #[.bool false, .int .u64 0, .int .u64 0, .int .u64 0, .int .u64 0] 100)).heap[w.heap.size]? = some (.cells #[.bool false, .int .u64 0, .int .u64 0, .int .u64 0, .int .u64 0] 100 (0, 0)) := (Below.heap_alloc _ _ _ (by simp)).trans (new_five w _ _)
  have hk1 : ((w.alloc (.cells #[.bool false, .int .u64 0, .int .u64 0, .int .u64 0, .int .u64 0] 100)).alloc (.cells #[.bool false, .int .u64 0, .int .u64 0, .int .u64 0, .int .u64 0] 100)).heap[w.heap.size + 1]? = some (.cells #[.bool false, .int .u64 0, .int .u64 0, .int .u64 0, .int .u64 0] 100 (0, 0)) := by
    have := new_five (w.alloc (.cells #[.bool false, .int .u64 0, .int .u64 0, .int .u64 0, .int .u64 0] 100)) #[.bool false, .int .u64 0, .int .u64 0, .int .u64 0, .int .u64 0] 100
    have e : (w.alloc (.cells #[.bool false, .int .u64 0, .int .u64 0, .int .u64 0, .int .u64 0] 100)).heap.size = w.heap.size + 1 := by simp
    rwa [e] at this
  have hB : Hid (Below w.heap.size w ((w.alloc (.cells #[.bool false, .int .u64 0, .int .u64 0, .int .u64 0, .int .u64 0] 100)).alloc (.cells #[.bool false, .int .u64 0, .int .u64 0, .int .u64 0, .int .u64 0] 100))) := Lib.hid (((Below.refl _ w).alloc (Nat.le_refl _) _).alloc (by simp) _)
  have HK0 := Lib.hid hk0
  have HK1 := Lib.hid hk1
  clear hk0 hk1
  go_enter Tryd.func69, Tryd.ntmps69
  go_wp2_with fail
  generalize (w.alloc (.cells #[.bool false, .int .u64 0, .int .u64 0, .int .u64 0, .int .u64 0] 100)).alloc (.cells #[.bool false, .int .u64 0, .int .u64 0, .int .u64 0, .int .u64 0] 100) = wz at *
  obtain ⟨b1, hb1⟩ : ∃ q, w.heap.size = q := ⟨_, rfl⟩
  obtain ⟨b2, hb2⟩ : ∃ q, b1 + 1 = q := ⟨_, rfl⟩
  have HB1 := Lib.hid hb1
  have HB2 := Lib.hid hb2
  rw [hb1, hb2] at HK1
  rw [hb1] at HK0
  have hne : b1 ≠ b2 := by omega
  rw [hb1, hb2]
  clear hb1 hb2
  have key : ∀ j u, noneS.cells[j]? = some u → wz.cell? ⟨b2, 1 + j, none⟩ = some u := fun j u hj => by
    rw [cell_of_row _ _ _ _ _ _ HK1.out]
    match j, hj with
    | 0, hj => exact hj
    | 1, hj => exact hj
    | 2, hj => exact hj
    | 3, hj => exact hj
    | (n + 4), hj => cases hj
  have hA : SAt wz b2 1 noneS := ⟨key, fun j => frozen_box HK1.out j⟩
  clear key
  refine (add_any b2 1 noneS c c wz none_ok hA hc hc).mono ?_
  rw [show addUp noneS c (c + 1 - c) = addOne noneS c by rw [Nat.add_sub_cancel_left]; rfl]
  rintro e w1 ⟨rfl, a1, t1⟩
  have HA1 := Lib.hid a1
  have HT1 := Lib.hid t1
  have d0 := (t1.near 0 (Or.inl (by omega))).trans (by rw [cell_of_row _ _ _ _ _ _ HK1.out]; rfl : wz.cell? ⟨b2, 0, none⟩ = some (.bool false))
  have d1 := a1.cs 0 _ rfl
  have d2 := a1.cs 1 _ rfl
  have d3 := a1.cs 2 _ rfl
  have d4 := a1.cs 3 _ rfl
  have hz := t1.far b1 hne
  have r : ∀ j u, (#[.bool false, .int .u64 0, .int .u64 0, .int .u64 0, .int .u64 0] : Array Value)[j]? = some u → w1.cell? ⟨b1, j, none⟩ = some u := fun j u hj => (World.cell?_of_block hz).trans (by rw [cell_of_row _ _ _ _ _ _ HK0.out]; exact hj)
  have r0 := r 0 _ rfl
  have r1 := r 1 _ rfl
  have r2 := r 2 _ rfl
  have r3 := r 3 _ rfl
  have r4 := r 4 _ rfl
  have q0 := (World.frozen?_of_block hz).trans (frozen_box HK0.out 0)
  have q1 := (World.frozen?_of_block hz).trans (frozen_box HK0.out 1)
  have q2 := (World.frozen?_of_block hz).trans (frozen_box HK0.out 2)
  have q3 := (World.frozen?_of_block hz).trans (frozen_box HK0.out 3)
  have q4 := (World.frozen?_of_block hz).trans (frozen_box HK0.out 4)
  obtain ⟨s, hs⟩ : ∃ s, addOne noneS c = s := ⟨_, rfl⟩
  rw [hs] at d1 d2 d3 d4
  have HSS := Lib.hid hs
  have hB3 : Hid (Below w.heap.size w w1) := Lib.hid (hB.out.trans (t1.below (by have := HB1.out; have := HB2.out; omega)))
  clear hs a1 t1 hA hz r HA1 hne
  go_wp2_with fail
  obtain ⟨z0, z1, z2, z3, z4⟩ := set5_cells r0 r1 r2 r3 r4 (.bool false) (.int .u64 (s.a : Int)) (.int .u64 (s.b : Int)) (.int .u64 (s.c : Int)) (.int .u64 (s.d : Int))
  refine bodyPost_ret (v := .agg #[.bool false, .int .u64 (s.a : Int), .int .u64 (s.b : Int), .int .u64 (s.c : Int), .int .u64 (s.d : Int)]) (by simp [results, Tryd.results69, go_sem, z0, z1, z2, z3, z4]) rfl ⟨by rw [HSS.out]; rfl, ?_⟩
  have hb : w.heap.size ≤ b1 := Nat.le_of_eq HB1.out
  exact ((((hB3.out.setCell hb _).setCell hb _).setCell hb _).setCell hb _).setCell hb _
end Go.Proofs.YthigepjddfdbmaaDoor
