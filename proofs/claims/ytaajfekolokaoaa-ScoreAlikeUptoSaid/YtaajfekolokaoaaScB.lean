/- The walks of the reference's long (a table of rows) and Pairs. -/
import Derived.Test.YtaajfekolokaoaaLinAll
namespace Go.Proofs.Ytaajfekolokaoaa
open Go.RowKit


/-- A table of rows in memory, of which those from k on are made. -/
structure Grid (B : Nat) (w : World) (X m n k : Nat) (bl : Nat → Nat) (g : Nat → Nat → Nat) : Prop where
  low : B ≤ X
  lt : X < w.heap.size
  any : ∀ p, p ≤ n → ∃ u, w.cell? ⟨X, p, none⟩ = some u
  fx : ∀ p, w.frozen? ⟨X, p, none⟩ = false
  row : ∀ p, k ≤ p → p ≤ n → w.cell? ⟨X, p, none⟩ = some (.slice (some ⟨bl p, 0, none⟩) m m)
  ne : ∀ p, k ≤ p → p ≤ n → X < bl p ∧ bl p < w.heap.size
  inj : ∀ p q, k ≤ p → p ≤ n → k ≤ q → q ≤ n → bl p = bl q → p = q
  cs : ∀ p q, k ≤ p → p ≤ n → q < m → w.cell? ⟨bl p, q, none⟩ = some (.int .i64 (g p q : Nat))
  fr : ∀ p q, k ≤ p → p ≤ n → w.frozen? ⟨bl p, q, none⟩ = false
theorem Grid.drewN {B : Nat} {w : World} {X m n k : Nat} {bl : Nat → Nat} {g : Nat → Nat → Nat} (h : Grid B w X m n k bl g) (x : Nat) : Grid B (w.drewN x) X m n k bl g := ⟨h.low, h.lt, h.any, h.fx, h.row, h.ne, h.inj, h.cs, h.fr⟩
theorem Grid.kept {B : Nat} {w w' : World} {X m n k : Nat} {bl : Nat → Nat} {g : Nat → Nat → Nat} (h : Grid B w X m n k bl g) (hb : ∀ q, q < w.heap.size → w'.heap[q]? = w.heap[q]?) (hs : w.heap.size ≤ w'.heap.size) : Grid B w' X m n k bl g :=
  ⟨h.low, Nat.lt_of_lt_of_le h.lt hs, fun p hp => by obtain ⟨u, hu⟩ := h.any p hp; exact ⟨u, (World.cell?_of_block (w := w) (hb _ h.lt)).trans hu⟩, fun p => (World.frozen?_of_block (w := w) (hb _ h.lt)).trans (h.fx p),
    fun p h1 h2 => (World.cell?_of_block (w := w) (hb _ h.lt)).trans (h.row p h1 h2), fun p h1 h2 => ⟨(h.ne p h1 h2).1, Nat.lt_of_lt_of_le (h.ne p h1 h2).2 hs⟩, h.inj,
    fun p q h1 h2 h3 => (World.cell?_of_block (w := w) (hb _ (h.ne p h1 h2).2)).trans (h.cs p q h1 h2 h3), fun p q h1 h2 => (World.frozen?_of_block (w := w) (hb _ (h.ne p h1 h2).2)).trans (h.fr p q h1 h2)⟩
theorem Grid.start {w w1 : World} {n m B : Nat} {bl : Nat → Nat} {g : Nat → Nat → Nat} (hown : w1.ownsRow B 80 1 (.slice (some ⟨w.heap.size, 0, none⟩) (n + 1) (n + 1)) (n + 1) (madeCells (Value.slice none 0 0).cells ((n + 1) * 1)).toList) (hlt : w.heap.size < w1.heap.size) :
    Grid w.heap.size w1 w.heap.size m n (n + 1) bl g := by
  refine ⟨Nat.le_refl _, hlt, fun p hp => ⟨.slice none 0 0, ?_⟩, fun p => ?_, fun p h1 h2 => by omega, fun p h1 h2 => by omega, fun p q h1 h2 => by omega, fun p q h1 h2 => by omega, fun p q h1 h2 => by omega⟩
  · rw [hown.cellAt p (by omega)]
    show (madeCells #[Value.slice none 0 0] ((n + 1) * 1)).toList[p]? = _
    rw [toList_madeCells_one, List.getElem?_replicate, if_pos (by omega)]
  · exact hown.frozenAt p
/-- One row more. -/
theorem Grid.more {B C : Nat} {w w1 : World} {X m n k : Nat} {bl : Nat → Nat} {g : Nat → Nat → Nat} (h : Grid B w X m n (k + 1) bl g) (hk : k ≤ n) (hown : w1.ownsRow C 3 1 (.slice (some ⟨w.heap.size, 0, none⟩) m m) m (madeCells (Value.int .i64 0).cells (m * 1)).toList) (hlt : w.heap.size < w1.heap.size) (hb : ∀ q, q < w.heap.size → w1.heap[q]? = w.heap[q]?) :
    Grid B (w1.setCell ⟨X, k, none⟩ (.slice (some ⟨w.heap.size, 0, none⟩) m m)) X m n k (fun p => if p = k then w.heap.size else bl p) (fun p q => if p = k then 0 else g p q) := by
  have hX := h.lt
  have h1 := h.kept hb (by omega)
  obtain ⟨u, hu⟩ := h1.any k hk
  have other : ∀ b q, b ≠ X → (w1.setCell ⟨X, k, none⟩ (.slice (some ⟨w.heap.size, 0, none⟩) m m)).cell? ⟨b, q, none⟩ = w1.cell? ⟨b, q, none⟩ := fun b q hne => World.cell?_setCell_other _ _ _ _ (by intro c; injection c with c _ _; exact hne c.symm)
  have slot : ∀ p, p ≠ k → (w1.setCell ⟨X, k, none⟩ (.slice (some ⟨w.heap.size, 0, none⟩) m m)).cell? ⟨X, p, none⟩ = w1.cell? ⟨X, p, none⟩ := fun p hne => World.cell?_setCell_other _ _ _ _ (by intro c; injection c with _ c _; exact hne c.symm)
  have here : (w1.setCell ⟨X, k, none⟩ (.slice (some ⟨w.heap.size, 0, none⟩) m m)).cell? ⟨X, k, none⟩ = some (.slice (some ⟨w.heap.size, 0, none⟩) m m) := World.cell?_setCell_same _ _ _ hu
  refine ⟨h.low, by simp; omega, fun p hp => ?_, fun p => by rw [World.frozen?_setCell]; exact h1.fx p, fun p h2 h3 => ?_, fun p h2 h3 => ?_, fun p q h2 h3 h4 h5 he => ?_, fun p q h2 h3 h4 => ?_, fun p q h2 h3 => ?_⟩
  · by_cases e : p = k
    · subst e; exact ⟨_, here⟩
    · rw [slot p e]; exact h1.any p hp
  · by_cases e : p = k
    · subst e; rw [if_pos rfl]; exact here
    · rw [if_neg e, slot p e]; exact h1.row p (by omega) h3
  · by_cases e : p = k
    · rw [if_pos e]; exact ⟨hX, by simp; omega⟩
    · rw [if_neg e]; have := h1.ne p (by omega) h3; exact ⟨this.1, by simpa using this.2⟩
  · by_cases e : p = k
    · by_cases e2 : q = k
      · rw [e, e2]
      · rw [if_pos e, if_neg e2] at he; have := (h.ne q (by omega) h5).2; omega
    · by_cases e2 : q = k
      · rw [if_neg e, if_pos e2] at he; have := (h.ne p (by omega) h3).2; omega
      · rw [if_neg e, if_neg e2] at he; exact h.inj p q (by omega) h3 (by omega) h5 he
  · by_cases e : p = k
    · rw [if_pos e, if_pos e, other _ _ (by omega), hown.cellAt q (by omega)]
      show (madeCells #[Value.int .i64 0] (m * 1)).toList[q]? = _
      rw [toList_madeCells_one, List.getElem?_replicate, if_pos (by omega)]; rfl
    · rw [if_neg e, if_neg e, other _ _ (by have := (h1.ne p (by omega) h3).1; omega)]; exact h1.cs p q (by omega) h3 h4
  · rw [World.frozen?_setCell]
    by_cases e : p = k
    · rw [if_pos e]; exact hown.frozenAt q
    · rw [if_neg e]; exact h1.fr p q (by omega) h3
theorem Grid.set {B : Nat} {w : World} {X m n k : Nat} {bl : Nat → Nat} {g : Nat → Nat → Nat} (h : Grid B w X m n k bl g) (hk : k ≤ n) {j : Nat} (hj : j < m) (x : Nat) {xi : Int} (hx : xi = (x : Int)) : Grid B (w.setCell ⟨bl k, j, none⟩ (.int .i64 xi)) X m n k bl (fun p q => if p = k ∧ q = j then x else g p q) := by
  subst hx
  have hbk := h.ne k (Nat.le_refl k) hk
  have other : ∀ p q, ¬ (p = bl k ∧ q = j) → (w.setCell ⟨bl k, j, none⟩ (.int .i64 (x : Int))).cell? ⟨p, q, none⟩ = w.cell? ⟨p, q, none⟩ := fun p q hne => World.cell?_setCell_other _ _ _ _ (by intro c; injection c with c c2 _; exact hne ⟨c.symm, c2.symm⟩)
  refine ⟨h.low, by simpa using h.lt, fun p hp => ?_, fun p => by rw [World.frozen?_setCell]; exact h.fx p, fun p h2 h3 => ?_, fun p h2 h3 => by simpa using h.ne p h2 h3, h.inj, fun p q h2 h3 h4 => ?_, fun p q h2 h3 => by rw [World.frozen?_setCell]; exact h.fr p q h2 h3⟩
  · rw [other _ _ (by omega)]; exact h.any p hp
  · rw [other _ _ (by omega)]; exact h.row p h2 h3
  · by_cases e : p = k ∧ q = j
    · rw [if_pos e, e.1, e.2]; exact World.cell?_setCell_same _ _ _ (h.cs _ _ (Nat.le_refl k) hk hj)
    · rw [if_neg e, other _ _ (fun c => e ⟨h.inj p k h2 h3 (Nat.le_refl k) hk c.1, c.2⟩)]; exact h.cs p q h2 h3 h4
/-- How far the table is right. -/
def GTo (a b : List (List UInt8)) (g : Nat → Nat → Nat) (k : Nat) (j : Int) : Prop := ∀ p q : Nat, p ≤ a.length → q ≤ b.length → (k < p ∨ (k = p ∧ j < q)) → g p q = lcs (a.drop p) (b.drop q)
theorem GTo.start {a b : List (List UInt8)} {g : Nat → Nat → Nat} : GTo a b (fun p q => if p = a.length then 0 else g p q) a.length (-1) := by
  intro p q hp hq hc
  obtain rfl : p = a.length := by omega
  show (if a.length = a.length then 0 else g a.length q) = _
  rw [if_pos rfl, List.drop_length]; rfl
theorem GTo.down {a b : List (List UInt8)} {g : Nat → Nat → Nat} {k : Nat} (h : GTo a b g (k + 1) (-1)) : GTo a b (fun p q => if p = k then 0 else g p q) k ((b.length : Int) - 1) := by
  intro p q hp hq hc
  show (if p = k then 0 else g p q) = _
  by_cases e : p = k
  · rw [if_pos e, List.drop_eq_nil_of_le (show b.length ≤ q by omega), lcs_none]
  · rw [if_neg e]; exact h p q hp hq (by omega)
theorem GTo.step {a b : List (List UInt8)} {g : Nat → Nat → Nat} {k j : Nat} (h : GTo a b g k j) : GTo a b (fun p q => if p = k ∧ q = j then lcs (a.drop k) (b.drop j) else g p q) k ((j : Int) - 1) := by
  intro p q hp hq hc
  show (if p = k ∧ q = j then lcs (a.drop k) (b.drop j) else g p q) = _
  by_cases e : p = k ∧ q = j
  · rw [if_pos e, e.1, e.2]
  · rw [if_neg e]; exact h p q hp hq (by omega)
theorem lcs_ref {a b : List (List UInt8)} {i j : Nat} (hi : i < a.length) (hj : j < b.length) : (a.getD i [] = b.getD j [] → lcs (a.drop i) (b.drop j) = lcs (a.drop (i + 1)) (b.drop (j + 1)) + 1 ∧ lcs (a.drop (i + 1)) (b.drop j) ≤ lcs (a.drop (i + 1)) (b.drop (j + 1)) + 1 ∧ lcs (a.drop i) (b.drop (j + 1)) ≤ lcs (a.drop (i + 1)) (b.drop (j + 1)) + 1) ∧ (a.getD i [] ≠ b.getD j [] → lcs (a.drop i) (b.drop j) = max (lcs (a.drop (i + 1)) (b.drop j)) (lcs (a.drop i) (b.drop (j + 1)))) := by
  rw [List.drop_eq_getElem_cons hi, List.drop_eq_getElem_cons hj, getD_at hi, getD_at hj]
  refine ⟨fun e => ⟨by rw [e, lcs_same], (lcs_le_right _ _ _).2, (lcs_le_left _ _ _).2⟩, fun e => lcs_ne e _ _⟩
theorem lcs_drop_len (a b : List (List UInt8)) (i j : Nat) : lcs (a.drop i) (b.drop j) ≤ a.length := by
  have := (lcs_len (a.drop i) (b.drop j)).1
  simp at this; omega
theorem Try.info80r : (Try.prog.info? 80).map (fun i => (i.zero, i.size, i.bytes)) = some (some (.slice none 0 0), 1, 24) := by kernel_rfl
/-- What long leaves. -/
def LongP (w : World) (a b : List (List UInt8)) (e : Ending) (w' : World) : Prop := ∃ X bl g, e = .returned (.slice (some ⟨X, 0, none⟩) (a.length + 1) (a.length + 1)) ∧ Grid w.heap.size w' X (b.length + 1) a.length 0 bl g ∧ GTo a b g 0 (-1) ∧ Below w.heap.size w w'
set_option maxRecDepth 100000 in
set_option maxHeartbeats 8000000 in
theorem long_any (S T : Nat → Prop) (va vb : Value) (a b : List (List UInt8)) (w : World) (hS : ∀ k, S k → k < w.heap.size) (hT : ∀ k, T k → k < w.heap.size) (ha : StrsC S w va a) (hb : StrsC T w vb b) (hal : a.length ≤ 4194304) (hbl : b.length ≤ 4194304) :
    Calls Try.prog 40 #[va, vb] w (LongP w a b) := by
  obtain ⟨i0, hi, hz0, hz1, hz2⟩ := info_parts Try.info3i
  obtain ⟨j0, hj, hy0, hy1, hy2⟩ := info_parts Try.info80r
  obtain ⟨aa, ac, rfl⟩ := ha.shape
  obtain ⟨ba, bc, rfl⟩ := hb.shape
  have HS := Lib.hid hS
  have HT := Lib.hid hT
  have HA := Lib.hid ha
  have HB := Lib.hid hb
  obtain ⟨n, hn⟩ : ∃ n, a.length + 1 = n := ⟨_, rfl⟩
  obtain ⟨m, hm⟩ : ∃ m, b.length + 1 = m := ⟨_, rfl⟩
  have hnc : (a.length : Int) + 1 = (n : Int) := by omega
  have hmc : (b.length : Int) + 1 = (m : Int) := by omega
  have HN := Lib.hid hn
  have HM := Lib.hid hm
  clear hS hT ha hb hn hm
  go_enter Try.func40, Try.ntmps40
  go_upto_region 2 with (at_make; refine wpList_make_full _ rfl _ _ 83 rfl w.heap.size 80 j0 (.slice none 0 0) 1 Try.underlying83 hj hy0 hy1 .i64 .i64 _ _ n rfl rfl (by omega) (by omega) (by rw [hy2]; omega) (by unfold maxLen; omega) (by simp) ?_; intro w1 hown hgrow)
  have hlt1 : w.heap.size < w1.heap.size := (hown.lt _ rfl).2
  have G1 : Hid (Grid w.heap.size w1 w.heap.size m a.length (a.length + 1) (fun _ => 0) (fun _ _ => 0)) := Lib.hid (Grid.start (by rw [HN.out]; exact hown) hlt1)
  have B1 : Hid (Below w.heap.size w w1) := Lib.hid ((Below.refl w.heap.size w).grown hgrow (Nat.le_refl _) (fun j hj => by cases hj))
  clear hown hgrow
  obtain ⟨X, hX⟩ : ∃ X, w.heap.size = X := ⟨_, rfl⟩
  have HX := Lib.hid hX
  rw [hX] at hlt1 ⊢
  have hX1 : X < w1.heap.size := hlt1
  rw [hX] at G1
  clear hX hlt1
  go_wp2_with (at_make
               refine wpList_make_full _ rfl _ _ 80 rfl w1.heap.size 3 i0 (.int .i64 0) 1 Try.underlying80 hi hz0 hz1 .i64 .i64 _ _ m rfl rfl (by omega) (by omega) (by rw [hz2]; omega) (by unfold maxLen; omega) (by simp) ?_
               intro w2 hown hgrow
               have hlt2 : w1.heap.size < w2.heap.size := (hown.lt _ rfl).2
               have hb2 : Below w1.heap.size w1 w2 := (Below.refl w1.heap.size w1).grown hgrow (Nat.le_refl _) (fun j hj => by cases hj)
               have G2 := Lib.hid (G1.out.more (Nat.le_refl _) hown hlt2 hb2.block)
               have B2 : Hid (Below w.heap.size w (w2.setCell ⟨X, a.length, none⟩ (.slice (some ⟨w1.heap.size, 0, none⟩) m m))) := Lib.hid ((B1.out.trans (hb2.mono B1.out.size)).setCell (by rw [HX.out]; exact Nat.le_refl _) _)
               obtain ⟨u, hu⟩ := (G1.out.kept hb2.block hb2.size).any a.length (Nat.le_refl _)
               have fx := (G1.out.kept hb2.block hb2.size).fx a.length
               clear hown hgrow hb2)
  have HT1 : Hid (GTo a b (fun p q => if p = a.length then 0 else (fun _ _ => 0) p q) a.length (-1)) := Lib.hid (GTo.start (g := fun _ _ => 0))
  clear G1 B1 hu fx hlt2
  generalize w2.setCell ⟨X, a.length, none⟩ (.slice (some ⟨w1.heap.size, 0, none⟩) m m) = w3 at *
  generalize w1.heap.size = b0 at *
  clear hX1
  go_loopw [6] (fun i wr => ∃ (x : Int) (k : Nat) (bl : Nat → Nat) (g : Nat → Nat → Nat), -1 ≤ x ∧ x < a.length ∧ (k : Int) = x + 1 ∧ i = .int .i64 x ∧ Hid (Grid w.heap.size wr X m a.length k bl g) ∧ Hid (GTo a b g k (-1)) ∧ Hid (Below w.heap.size w wr)) (fun i _ => (intOf i + 1).toNat)
  case atStart => exact ⟨(a.length : Int) - 1, a.length, _, _, by omega, by omega, by omega, rfl, by rw [HX.out]; exact G2, HT1, B2⟩
  case round =>
    obtain ⟨x, k, bl, g, hx1, hx2, hkx, rfl, hG, hTo, hW⟩ := hrel
    by_cases hx0 : 0 ≤ x
    · obtain ⟨i, rfl⟩ : ∃ i : Nat, x = i := ⟨x.toNat, by omega⟩
      obtain rfl : k = i + 1 := by omega
      have hia : i < a.length := by omega
      go_wp2_with (at_make
                   refine wpList_make_full _ rfl _ _ 80 rfl wr.heap.size 3 i0 (.int .i64 0) 1 Try.underlying80 hi hz0 hz1 .i64 .i64 _ _ m rfl rfl (by omega) (by omega) (by rw [hz2]; omega) (by unfold maxLen; omega) (by simp) ?_
                   intro w4 hown hgrow
                   have hlt4 : wr.heap.size < w4.heap.size := (hown.lt _ rfl).2
                   have hb4 : Below wr.heap.size wr w4 := (Below.refl wr.heap.size wr).grown hgrow (Nat.le_refl _) (fun j hj => by cases hj)
                   have G4 := Lib.hid (hG.out.more (by omega) hown hlt4 hb4.block)
                   have B4 : Hid (Below w.heap.size w (w4.setCell ⟨X, i, none⟩ (.slice (some ⟨wr.heap.size, 0, none⟩) m m))) := Lib.hid ((hW.out.trans (hb4.mono hW.out.size)).setCell (by rw [HX.out]; exact Nat.le_refl _) _)
                   obtain ⟨u4, hu4⟩ := (hG.out.kept hb4.block hb4.size).any i (by omega)
                   have fx4 := (hG.out.kept hb4.block hb4.size).fx i
                   clear hown hgrow hb4)
      have T4 := Lib.hid hTo.out.down
      clear hG hTo hW hu4 fx4 hlt4
      generalize w4.setCell ⟨X, i, none⟩ (.slice (some ⟨wr.heap.size, 0, none⟩) m m) = w5 at *
      generalize (fun p => if p = i then wr.heap.size else bl p) = bl1 at *
      generalize (fun p q => if p = i then 0 else g p q) = g1 at *
      go_loopw [7] (fun j wr => ∃ (y : Int) (g : Nat → Nat → Nat), -1 ≤ y ∧ y < b.length ∧ j = .int .i64 y ∧ Hid (Grid w.heap.size wr X m a.length i bl1 g) ∧ Hid (GTo a b g i y) ∧ Hid (Below w.heap.size w wr)) (fun j _ => (intOf j + 1).toNat)
      case atStart => exact ⟨(b.length : Int) - 1, g1, by omega, by omega, rfl, G4, T4, B4⟩
      case round =>
        obtain ⟨y, g2, hy1, hy2, rfl, hG, hTo, hW⟩ := hrel
        clear G4 T4 B4
        by_cases hy0 : 0 ≤ y
        · obtain ⟨j, rfl⟩ : ∃ j : Nat, y = j := ⟨y.toNat, by omega⟩
          have hjb : j < b.length := by omega
          obtain ⟨ga, oa, rfl, hSa, _, _, hca⟩ := HA.out.at (by omega)
          obtain ⟨gb, ob, rfl, hSb, _, _, hcb⟩ := HB.out.at (by omega)
          have c1 := (hW.out.cell (p := ⟨ga, oa + i, none⟩) (HS.out _ hSa)).trans (hca i hia)
          have c2 := (hW.out.cell (p := ⟨gb, ob + j, none⟩) (HT.out _ hSb)).trans (hcb j hjb)
          have r0 := hG.out.row i (Nat.le_refl i) (by omega)
          have r1 := hG.out.row (i + 1) (by omega) (by omega)
          have d0 := hG.out.cs i j (Nat.le_refl i) (by omega) (by omega)
          have d1 := hG.out.cs (i + 1) j (by omega) (by omega) (by omega)
          have d2 := hG.out.cs i (j + 1) (Nat.le_refl i) (by omega) (by omega)
          have d11 := hG.out.cs (i + 1) (j + 1) (by omega) (by omega) (by omega)
          have f0 := hG.out.fr i j (Nat.le_refl i) (by omega)
          rw [hTo.out (i + 1) j (by omega) (by omega) (by omega)] at d1
          rw [hTo.out i (j + 1) (by omega) (by omega) (by omega)] at d2
          rw [hTo.out (i + 1) (j + 1) (by omega) (by omega) (by omega)] at d11
          obtain ⟨l1, l2⟩ := lcs_ref hia hjb
          have k1 := lcs_drop_len a b (i + 1) j
          have k2 := lcs_drop_len a b i (j + 1)
          have k11 := lcs_drop_len a b (i + 1) (j + 1)
          have TS := Lib.hid hTo.out.step
          have GS := Lib.hid (fun (x : Nat) (xi : Int) (hx : xi = (x : Int)) (W : World) (h : Grid w.heap.size W X m a.length i bl1 g2) => h.set (by omega) (show j < m by omega) x hx)
          generalize g2 i j = old at *
          clear hca hcb hTo
          generalize lcs (a.drop (i + 1)) (b.drop j) = x1 at *
          generalize lcs (a.drop i) (b.drop (j + 1)) = x2 at *
          generalize lcs (a.drop (i + 1)) (b.drop (j + 1)) = x11 at *
          generalize lcs (a.drop i) (b.drop j) = x0 at *
          have HB2x : w.heap.size ≤ bl1 i := by have := hG.out.low; have := (hG.out.ne i (Nat.le_refl i) (by omega)).1; omega
          generalize bl1 (i + 1) = b1 at *
          generalize bl1 i = b2 at *
          have hbst : x1 < x2 ∨ ¬ x1 < x2 := by omega
          have HB2 : Hid (w.heap.size ≤ b2) := Lib.hid HB2x
          rcases hbst with h12 | h12
          · by_cases he : a.getD i [] = b.getD j []
            · obtain ⟨l3, l4, l5⟩ := l1 he
              have ge : (a.getD i [] == b.getD j []) = true := by simpa using he
              rw [he] at c1
              generalize b.getD j [] = z at *
              clear l1 l2 he
              by_cases ho : x2 < x11 + 1
              · go_wp2_with fail
                go_quiet (fail)
                have G3 := Lib.hid (hG.out.drewN nq)
                have W3 := Lib.hid (hW.out.trans (drewn w.heap.size wr nq))
                have r0' := (show (wr.drewN nq).cell? ⟨X, i, none⟩ = some (.slice (some ⟨b2, 0, none⟩) m m) from r0)
                have r1' := (show (wr.drewN nq).cell? ⟨X, i + 1, none⟩ = some (.slice (some ⟨b1, 0, none⟩) m m) from r1)
                have d0' := (show (wr.drewN nq).cell? ⟨b2, j, none⟩ = some (.int .i64 (old : Nat)) from d0)
                have d11' := (show (wr.drewN nq).cell? ⟨b1, j + 1, none⟩ = some (.int .i64 (x11 : Nat)) from d11)
                have f0' := (show (wr.drewN nq).frozen? ⟨b2, j, none⟩ = false from f0)
                clear hG hW c1 c2 r0 r1 d0 d1 d2 d11 f0
                generalize wr.drewN nq = wq at *
                go_wp2_with fail
                have G6 := Lib.hid (GS.out x0 ((x11 : Int) + 1) (by omega) wq G3.out)
                have W6 : Hid (Below w.heap.size w (wq.setCell ⟨b2, j, none⟩ (.int .i64 ((x11 : Int) + 1)))) := Lib.hid (W3.out.setCell (by have := HB2.out; show w.heap.size ≤ b2; omega) _)
                go_roundw
                case rel => exact ⟨(j : Int) - 1, _, by omega, by omega, rfl, G6, TS, W6⟩
                case measure => simp [intOf]
              · go_wp2_with fail
                go_quiet (fail)
                have G3 := Lib.hid (hG.out.drewN nq)
                have W3 := Lib.hid (hW.out.trans (drewn w.heap.size wr nq))
                have r0' := (show (wr.drewN nq).cell? ⟨X, i, none⟩ = some (.slice (some ⟨b2, 0, none⟩) m m) from r0)
                have r1' := (show (wr.drewN nq).cell? ⟨X, i + 1, none⟩ = some (.slice (some ⟨b1, 0, none⟩) m m) from r1)
                have d0' := (show (wr.drewN nq).cell? ⟨b2, j, none⟩ = some (.int .i64 (old : Nat)) from d0)
                have d11' := (show (wr.drewN nq).cell? ⟨b1, j + 1, none⟩ = some (.int .i64 (x11 : Nat)) from d11)
                have f0' := (show (wr.drewN nq).frozen? ⟨b2, j, none⟩ = false from f0)
                clear hG hW c1 c2 r0 r1 d0 d1 d2 d11 f0
                generalize wr.drewN nq = wq at *
                go_wp2_with fail
                have G6 := Lib.hid (GS.out x0 (x2 : Int) (by omega) wq G3.out)
                have W6 : Hid (Below w.heap.size w (wq.setCell ⟨b2, j, none⟩ (.int .i64 (x2 : Int)))) := Lib.hid (W3.out.setCell (by have := HB2.out; show w.heap.size ≤ b2; omega) _)
                go_roundw
                case rel => exact ⟨(j : Int) - 1, _, by omega, by omega, rfl, G6, TS, W6⟩
                case measure => simp [intOf]
            · have l3 := l2 he
              have ge : (a.getD i [] == b.getD j []) = false := by simpa using he
              generalize a.getD i [] = z1 at *
              generalize b.getD j [] = z2 at *
              clear l1 l2 he
              go_wp2_with fail
              go_quiet (fail)
              have G3 := Lib.hid (hG.out.drewN nq)
              have W3 := Lib.hid (hW.out.trans (drewn w.heap.size wr nq))
              have r0' := (show (wr.drewN nq).cell? ⟨X, i, none⟩ = some (.slice (some ⟨b2, 0, none⟩) m m) from r0)
              have r1' := (show (wr.drewN nq).cell? ⟨X, i + 1, none⟩ = some (.slice (some ⟨b1, 0, none⟩) m m) from r1)
              have d0' := (show (wr.drewN nq).cell? ⟨b2, j, none⟩ = some (.int .i64 (old : Nat)) from d0)
              have d11' := (show (wr.drewN nq).cell? ⟨b1, j + 1, none⟩ = some (.int .i64 (x11 : Nat)) from d11)
              have f0' := (show (wr.drewN nq).frozen? ⟨b2, j, none⟩ = false from f0)
              clear hG hW c1 c2 r0 r1 d0 d1 d2 d11 f0
              generalize wr.drewN nq = wq at *
              go_wp2_with fail
              have G6 := Lib.hid (GS.out x0 (x2 : Int) (by omega) wq G3.out)
              have W6 : Hid (Below w.heap.size w (wq.setCell ⟨b2, j, none⟩ (.int .i64 (x2 : Int)))) := Lib.hid (W3.out.setCell (by have := HB2.out; show w.heap.size ≤ b2; omega) _)
              go_roundw
              case rel => exact ⟨(j : Int) - 1, _, by omega, by omega, rfl, G6, TS, W6⟩
              case measure => simp [intOf]
          · by_cases he : a.getD i [] = b.getD j []
            · obtain ⟨l3, l4, l5⟩ := l1 he
              have ge : (a.getD i [] == b.getD j []) = true := by simpa using he
              rw [he] at c1
              generalize b.getD j [] = z at *
              clear l1 l2 he
              by_cases ho : x1 < x11 + 1
              · go_wp2_with fail
                go_quiet (fail)
                have G3 := Lib.hid (hG.out.drewN nq)
                have W3 := Lib.hid (hW.out.trans (drewn w.heap.size wr nq))
                have r0' := (show (wr.drewN nq).cell? ⟨X, i, none⟩ = some (.slice (some ⟨b2, 0, none⟩) m m) from r0)
                have r1' := (show (wr.drewN nq).cell? ⟨X, i + 1, none⟩ = some (.slice (some ⟨b1, 0, none⟩) m m) from r1)
                have d0' := (show (wr.drewN nq).cell? ⟨b2, j, none⟩ = some (.int .i64 (old : Nat)) from d0)
                have d11' := (show (wr.drewN nq).cell? ⟨b1, j + 1, none⟩ = some (.int .i64 (x11 : Nat)) from d11)
                have f0' := (show (wr.drewN nq).frozen? ⟨b2, j, none⟩ = false from f0)
                clear hG hW c1 c2 r0 r1 d0 d1 d2 d11 f0
                generalize wr.drewN nq = wq at *
                go_wp2_with fail
                have G6 := Lib.hid (GS.out x0 ((x11 : Int) + 1) (by omega) wq G3.out)
                have W6 : Hid (Below w.heap.size w (wq.setCell ⟨b2, j, none⟩ (.int .i64 ((x11 : Int) + 1)))) := Lib.hid (W3.out.setCell (by have := HB2.out; show w.heap.size ≤ b2; omega) _)
                go_roundw
                case rel => exact ⟨(j : Int) - 1, _, by omega, by omega, rfl, G6, TS, W6⟩
                case measure => simp [intOf]
              · go_wp2_with fail
                go_quiet (fail)
                have G3 := Lib.hid (hG.out.drewN nq)
                have W3 := Lib.hid (hW.out.trans (drewn w.heap.size wr nq))
                have r0' := (show (wr.drewN nq).cell? ⟨X, i, none⟩ = some (.slice (some ⟨b2, 0, none⟩) m m) from r0)
                have r1' := (show (wr.drewN nq).cell? ⟨X, i + 1, none⟩ = some (.slice (some ⟨b1, 0, none⟩) m m) from r1)
                have d0' := (show (wr.drewN nq).cell? ⟨b2, j, none⟩ = some (.int .i64 (old : Nat)) from d0)
                have d11' := (show (wr.drewN nq).cell? ⟨b1, j + 1, none⟩ = some (.int .i64 (x11 : Nat)) from d11)
                have f0' := (show (wr.drewN nq).frozen? ⟨b2, j, none⟩ = false from f0)
                clear hG hW c1 c2 r0 r1 d0 d1 d2 d11 f0
                generalize wr.drewN nq = wq at *
                go_wp2_with fail
                have G6 := Lib.hid (GS.out x0 (x1 : Int) (by omega) wq G3.out)
                have W6 : Hid (Below w.heap.size w (wq.setCell ⟨b2, j, none⟩ (.int .i64 (x1 : Int)))) := Lib.hid (W3.out.setCell (by have := HB2.out; show w.heap.size ≤ b2; omega) _)
                go_roundw
                case rel => exact ⟨(j : Int) - 1, _, by omega, by omega, rfl, G6, TS, W6⟩
                case measure => simp [intOf]
            · have l3 := l2 he
              have ge : (a.getD i [] == b.getD j []) = false := by simpa using he
              generalize a.getD i [] = z1 at *
              generalize b.getD j [] = z2 at *
              clear l1 l2 he
              go_wp2_with fail
              go_quiet (fail)
              have G3 := Lib.hid (hG.out.drewN nq)
              have W3 := Lib.hid (hW.out.trans (drewn w.heap.size wr nq))
              have r0' := (show (wr.drewN nq).cell? ⟨X, i, none⟩ = some (.slice (some ⟨b2, 0, none⟩) m m) from r0)
              have r1' := (show (wr.drewN nq).cell? ⟨X, i + 1, none⟩ = some (.slice (some ⟨b1, 0, none⟩) m m) from r1)
              have d0' := (show (wr.drewN nq).cell? ⟨b2, j, none⟩ = some (.int .i64 (old : Nat)) from d0)
              have d11' := (show (wr.drewN nq).cell? ⟨b1, j + 1, none⟩ = some (.int .i64 (x11 : Nat)) from d11)
              have f0' := (show (wr.drewN nq).frozen? ⟨b2, j, none⟩ = false from f0)
              clear hG hW c1 c2 r0 r1 d0 d1 d2 d11 f0
              generalize wr.drewN nq = wq at *
              go_wp2_with fail
              have G6 := Lib.hid (GS.out x0 (x1 : Int) (by omega) wq G3.out)
              have W6 : Hid (Below w.heap.size w (wq.setCell ⟨b2, j, none⟩ (.int .i64 (x1 : Int)))) := Lib.hid (W3.out.setCell (by have := HB2.out; show w.heap.size ≤ b2; omega) _)
              go_roundw
              case rel => exact ⟨(j : Int) - 1, _, by omega, by omega, rfl, G6, TS, W6⟩
              case measure => simp [intOf]
        · obtain rfl : y = -1 := by omega
          go_wp2_with fail
          go_roundw
          case rel => exact ⟨(i : Int) - 1, i, bl1, g2, by omega, by omega, by omega, rfl, hG, hTo, hW⟩
          case measure => simp [intOf]
    · obtain rfl : x = -1 := by omega
      obtain rfl : k = 0 := by omega
      have HN2 := HN.out
      go_wp2_with fail
      go_ret
      exact ⟨X, bl, g, by rw [HN2]; rfl, by rw [HM.out]; exact hG.out, hTo.out, hW.out⟩


def OwnK (w : World) (B : Nat) (v : Value) (P : List (Nat × Nat)) : Prop := w.ownsRow B 86 2 v P.length (p2 P)
def PairsK (S : Nat → Prop) (w : World) (v : Value) (P : List (Nat × Nat)) : Prop := CellsC S w v P.length 2 (p2 P)
theorem ownK_nil (w : World) (B : Nat) : OwnK w B (.slice none 0 0) [] := World.ownsRow_nil _ _ _ _
theorem ownK_push {w2 : World} {B : Nat} {v : Value} {P : List (Nat × Nat)} {x y : Nat} (h : w2.ownsRow B 86 2 v (P.length + 1) (p2 P ++ [.int .i64 (x : Int), .int .i64 (y : Int)])) : OwnK w2 B v (P ++ [(x, y)]) := by
  unfold OwnK
  rw [p2_append, List.length_append]; exact h
theorem ownK_slice {w : World} {B : Nat} {v : Value} {P : List (Nat × Nat)} (h : OwnK w B v P) : ∃ a cap, v = .slice a P.length cap := by
  rcases h.2 with ⟨e, hn⟩ | ⟨g, cap, cur, e, _⟩
  · rw [hn]; exact ⟨none, 0, e⟩
  · exact ⟨_, _, e⟩
theorem ownK_c {w : World} {B : Nat} {v : Value} {P : List (Nat × Nat)} (h : OwnK w B v P) : PairsK (fun k => B ≤ k ∧ k < w.heap.size) w v P := own_cells h (p2_one P)
theorem srcK_one (w : World) (x y : Int) : Src Try.prog 2 62 (.slice (some ⟨w.heap.size, 0, none⟩) 1 1) 1 [.int .i64 x, .int .i64 y] (w.alloc (.cells #[.int .i64 x, .int .i64 y] 86)) :=
  Src.ofSlice _ Try.underlying62 _ 1 1 _ rfl (fun j u hj => by
    rw [add_pos, Nat.zero_add, World.cell?_alloc_mark]; simpa using hj) (fun u hu => by
    simp at hu; rcases hu with rfl | rfl <;> rfl)
theorem Try.info86p : (Try.prog.info? 86).map (fun i => (i.zero, i.size, i.bytes)) = some (some (.agg #[.int .i64 0, .int .i64 0]), 2, 16) := by kernel_rfl
theorem walk_ref {a b : List (List UInt8)} {i j : Nat} (hi : i < a.length) (hj : j < b.length) :
    (a.getD i [] = b.getD j [] → pairsN (a.drop i) i (b.drop j) j = (i, j) :: pairsN (a.drop (i + 1)) (i + 1) (b.drop (j + 1)) (j + 1)) ∧
    (a.getD i [] ≠ b.getD j [] → lcs (a.drop (i + 1)) (b.drop j) = lcs (a.drop i) (b.drop j) → pairsN (a.drop i) i (b.drop j) j = pairsN (a.drop (i + 1)) (i + 1) (b.drop j) j) ∧
    (a.getD i [] ≠ b.getD j [] → lcs (a.drop (i + 1)) (b.drop j) ≠ lcs (a.drop i) (b.drop j) → pairsN (a.drop i) i (b.drop j) j = pairsN (a.drop i) i (b.drop (j + 1)) (j + 1)) := by
  rw [getD_at hi, getD_at hj]
  have ea := List.drop_eq_getElem_cons hi
  have eb := List.drop_eq_getElem_cons hj
  refine ⟨fun e => ?_, fun e h => ?_, fun e h => ?_⟩
  · rw [ea, eb, e, pairsN_same]
  · rw [ea, eb] at h ⊢
    rw [pairsN_down e h]
  · rw [ea, eb] at h ⊢
    rw [pairsN_right e h]
/-- What the reference's Pairs leaves. -/
def PairsKP (w : World) (P : List (Nat × Nat)) (e : Ending) (w' : World) : Prop := ∃ v, e = .returned (.tuple #[v, .int .i64 0]) ∧ OwnK w' w.heap.size v P ∧ Below w.heap.size w w'
set_option maxRecDepth 100000 in
set_option maxHeartbeats 8000000 in
theorem rpairs_any (S T : Nat → Prop) (va vb : Value) (a b : List (List UInt8)) (w : World) (hS : ∀ k, S k → k < w.heap.size) (hT : ∀ k, T k → k < w.heap.size) (ha : StrsC S w va a) (hb : StrsC T w vb b) (hal : a.length ≤ 4194304) (hbl : b.length ≤ 4194304)
    (hm : a.length * b.length ≤ 1048576) :
    Calls Try.prog 23 #[va, vb] w (PairsKP w (pairsN a 0 b 0)) := by
  obtain ⟨i0, hi, hz0, hz1, hz2⟩ := info_parts Try.info86p
  have HC := Lib.hid (long_any S T va vb a b w hS hT ha hb hal hbl)
  obtain ⟨aa, ac, rfl⟩ := ha.shape
  obtain ⟨ba, bc, rfl⟩ := hb.shape
  have HS := Lib.hid hS
  have HT := Lib.hid hT
  have HA := Lib.hid ha
  have HB := Lib.hid hb
  obtain ⟨pr, hpr⟩ : ∃ pr : Int, (a.length : Int) * (b.length : Int) = pr := ⟨_, rfl⟩
  have hpn : ((a.length * b.length : Nat) : Int) = pr := by rw [← hpr]; exact Int.natCast_mul _ _
  have hpr2 : pr ≤ 1048576 := by generalize a.length * b.length = pn at *; omega
  have hpr1 : 0 ≤ pr := by generalize a.length * b.length = pn at *; omega
  have hprw : IntKind.i64.wrap pr = pr := IntWalk.i64_in _ (by omega)
  obtain ⟨PP, hPP⟩ : ∃ PP, pairsN a 0 b 0 = PP := ⟨_, rfl⟩
  rw [hPP]
  have HPP := Lib.hid hPP
  clear hS hT ha hb hm hPP hpn
  go_enter Try.func23, Try.ntmps23
  go_wp2_with fail
  refine HC.out.mono ?_
  rintro e w2 ⟨X, bl, g, rfl, hG2, hTo2, hB2⟩
  have G2 := Lib.hid hG2
  have TO := Lib.hid hTo2
  have B2 := Lib.hid hB2
  clear hG2 hTo2 hB2 hpr hprw hpr1 hpr2
  go_wp2_with fail
  go_loopw [7, 8, 9] (fun v i j wr => ∃ (x y : Nat) (P : List (Nat × Nat)), x ≤ a.length ∧ y ≤ b.length ∧ P.length ≤ x ∧ i = .int .i64 x ∧ j = .int .i64 y ∧ Hid (OwnK wr w2.heap.size v P) ∧ Hid (P ++ pairsN (a.drop x) x (b.drop y) y = PP) ∧ Hid (Below w2.heap.size w2 wr)) (fun _ i j _ => (a.length - (intOf i).toNat) + (b.length - (intOf j).toNat))
  case atStart => exact ⟨0, 0, [], Nat.zero_le _, Nat.zero_le _, Nat.le_refl _, rfl, rfl, Lib.hid (ownK_nil _ _), Lib.hid HPP.out, Lib.hid (Below.refl _ _)⟩
  case round =>
    obtain ⟨x, y, P, hx, hy, hPx, rfl, rfl, hO, hE, hW⟩ := hrel
    obtain ⟨oa, oc, rfl⟩ := ownK_slice hO.out
    by_cases hxa : x < a.length
    · by_cases hyb : y < b.length
      · obtain ⟨ga, o1, rfl, hSa, _, _, hca⟩ := HA.out.at (by omega)
        obtain ⟨gb, o2, rfl, hSb, _, _, hcb⟩ := HB.out.at (by omega)
        have hs2 := B2.out.size
        have BW := Lib.hid (B2.out.trans (hW.out.mono hs2))
        have c1 := (BW.out.cell (p := ⟨ga, o1 + x, none⟩) (HS.out _ hSa)).trans (hca x hxa)
        have c2 := (BW.out.cell (p := ⟨gb, o2 + y, none⟩) (HT.out _ hSb)).trans (hcb y hyb)
        have hsz := hW.out.size
        have G3 := G2.out.kept hW.out.block hsz
        have r0 := G3.row x (Nat.zero_le _) (by omega)
        have r1 := G3.row (x + 1) (Nat.zero_le _) (by omega)
        have d0 := G3.cs x y (Nat.zero_le _) (by omega) (by omega)
        have d1 := G3.cs (x + 1) y (Nat.zero_le _) (by omega) (by omega)
        rw [TO.out x y (by omega) (by omega) (by omega)] at d0
        rw [TO.out (x + 1) y (by omega) (by omega) (by omega)] at d1
        obtain ⟨hst1, hst2, hst3⟩ := walk_ref hxa hyb
        have ST1 := Lib.hid hst1
        have ST2 := Lib.hid hst2
        have ST3 := Lib.hid hst3
        clear hca hcb hst1 hst2 hst3 G3
        generalize lcs (a.drop (x + 1)) (b.drop y) = q1 at *
        generalize lcs (a.drop x) (b.drop y) = q0 at *
        by_cases he : a.getD x [] = b.getD y []
        · have ge : (a.getD x [] == b.getD y []) = true := by simpa using he
          have HR : Hid (P ++ [(x, y)] ++ pairsN (a.drop (x + 1)) (x + 1) (b.drop (y + 1)) (y + 1) = PP) := Lib.hid (by rw [← hE.out, ST1.out he]; simp)
          rw [he] at c1
          generalize b.getD y [] = ub at *
          clear he ge ST1 ST2 ST3 hE r0 r1 d0 d1
          go_wp2_with fail
          go_quiet (fail)
          have O3 : Hid (OwnK (wr.drewN nq) w2.heap.size (.slice oa P.length oc) P) := Lib.hid (own_below hO.out (fun _ _ _ => rfl))
          have W3 := Lib.hid (hW.out.trans (drewn w2.heap.size wr nq))
          have hsz3 : w2.heap.size ≤ (wr.drewN nq).heap.size := hsz
          clear c1 c2 hO hW
          generalize wr.drewN nq = wq at *
          go_wp2_with (at_builtin; refine wpList_own_src _ rfl _ _ 62 62 rfl w2.heap.size 86 i0 (.agg #[.int .i64 0, .int .i64 0]) 2 16 Try.underlying62 hi hz0 hz1 hz2 rfl (by decide) _ _ _ rfl (World.ownsRow.alloc O3.out _) _ 1 [.int .i64 (x : Int), .int .i64 (y : Int)] rfl (srcK_one _ _ _) (by unfold maxLen; omega) (by omega) (by simp; omega) ?_)
          intro v5 w5 hown5 hg5
          have O5 : Hid (OwnK w5 w2.heap.size v5 (P ++ [(x, y)])) := Lib.hid (ownK_push hown5)
          have W5 : Hid (Below w2.heap.size w2 w5) := Lib.hid ((W3.out.alloc W3.out.size _).grown hg5.gb (by simp; omega) (fun j hj => (World.ownsRow.lt O3.out j hj).1))
          clear hown5 hg5
          go_wp2_with fail
          go_roundw
          case rel => exact ⟨x + 1, y + 1, P ++ [(x, y)], by omega, by omega, by simp; omega, by go_num, by go_num, O5, HR, W5⟩
          case measure => simp [intOf]; omega
        · have ge : (a.getD x [] == b.getD y []) = false := by simpa using he
          have S2 := Lib.hid (ST2.out he)
          have S3 := Lib.hid (ST3.out he)
          generalize a.getD x [] = ua at *
          generalize b.getD y [] = ub at *
          clear he ST1 ST2 ST3
          go_wp2_with fail
          go_quiet (fail)
          have O3 : Hid (OwnK (wr.drewN nq) w2.heap.size (.slice oa P.length oc) P) := Lib.hid (own_below hO.out (fun _ _ _ => rfl))
          have W3 := Lib.hid (hW.out.trans (drewn w2.heap.size wr nq))
          have r0' := (show (wr.drewN nq).cell? ⟨X, x, none⟩ = some (.slice (some ⟨bl x, 0, none⟩) (b.length + 1) (b.length + 1)) from r0)
          have r1' := (show (wr.drewN nq).cell? ⟨X, x + 1, none⟩ = some (.slice (some ⟨bl (x + 1), 0, none⟩) (b.length + 1) (b.length + 1)) from r1)
          have d0' := (show (wr.drewN nq).cell? ⟨bl x, y, none⟩ = some (.int .i64 (q0 : Nat)) from d0)
          have d1' := (show (wr.drewN nq).cell? ⟨bl (x + 1), y, none⟩ = some (.int .i64 (q1 : Nat)) from d1)
          clear c1 c2 hO hW r0 r1 d0 d1 ge
          generalize wr.drewN nq = wq at *
          by_cases hq : q1 = q0
          · have gq : ((q1 : Int) == (q0 : Int)) = true := by rw [hq]; simp
            have HR : Hid (P ++ pairsN (a.drop (x + 1)) (x + 1) (b.drop y) y = PP) := Lib.hid (by rw [← hE.out, S2.out hq])
            clear hq S2 S3 hE
            go_wp2_with fail
            go_quiet (fail)
            have O4 : Hid (OwnK (wq.drewN nq) w2.heap.size (.slice oa P.length oc) P) := Lib.hid (own_below O3.out (fun _ _ _ => rfl))
            have W4 := Lib.hid (W3.out.trans (drewn w2.heap.size wq nq))
            clear r0' r1' d0' d1'
            generalize wq.drewN nq = wz at *
            go_wp2_with fail
            go_roundw
            case rel => exact ⟨x + 1, y, P, by omega, by omega, by omega, by go_num, rfl, O4, HR, W4⟩
            case measure => simp [intOf]; omega
          · have gq : ((q1 : Int) == (q0 : Int)) = false := by rw [beq_eq_false_iff_ne]; omega
            have HR : Hid (P ++ pairsN (a.drop x) x (b.drop (y + 1)) (y + 1) = PP) := Lib.hid (by rw [← hE.out, S3.out hq])
            clear hq S2 S3 hE
            go_wp2_with fail
            go_quiet (fail)
            have O4 : Hid (OwnK (wq.drewN nq) w2.heap.size (.slice oa P.length oc) P) := Lib.hid (own_below O3.out (fun _ _ _ => rfl))
            have W4 := Lib.hid (W3.out.trans (drewn w2.heap.size wq nq))
            clear r0' r1' d0' d1'
            generalize wq.drewN nq = wz at *
            go_wp2_with fail
            go_roundw
            case rel => exact ⟨x, y + 1, P, by omega, by omega, by omega, rfl, by go_num, O4, HR, W4⟩
            case measure => simp [intOf]; omega
      · have HQ : Hid (P = PP) := Lib.hid (by
          have := hE.out
          rw [List.drop_eq_nil_of_le (show b.length ≤ y by omega), pairsN_none, List.append_nil] at this
          exact this)
        have hs2 := B2.out.size
        go_wp2_with fail
        go_ret2
        exact ⟨_, rfl, own_base (by rw [← HQ.out]; exact hO.out) hs2, B2.out.trans (hW.out.mono hs2)⟩
    · have HQ : Hid (P = PP) := Lib.hid (by
        have := hE.out
        rw [List.drop_eq_nil_of_le (show a.length ≤ x by omega), pairsN_nil, List.append_nil] at this
        exact this)
      have hs2 := B2.out.size
      go_wp2_with fail
      go_ret2
      exact ⟨_, rfl, own_base (by rw [← HQ.out]; exact hO.out) hs2, B2.out.trans (hW.out.mono hs2)⟩
set_option maxRecDepth 100000 in
set_option maxHeartbeats 4000000 in
theorem rpairs_long (S T : Nat → Prop) (va vb : Value) (a b : List (List UInt8)) (w : World) (ha : StrsC S w va a) (hb : StrsC T w vb b) (hal : a.length ≤ 4194304) (hbl : b.length ≤ 4194304) (hm : 1048576 < a.length * b.length) :
    Calls Try.prog 23 #[va, vb] w fun e w' => e = .returned (.tuple #[.slice none 0 0, .int .i64 2]) ∧ w = w' := by
  obtain ⟨aa, ac, rfl⟩ := ha.shape
  obtain ⟨ba, bc, rfl⟩ := hb.shape
  obtain ⟨pr, hpr⟩ : ∃ pr : Int, (a.length : Int) * (b.length : Int) = pr := ⟨_, rfl⟩
  have hpn : ((a.length * b.length : Nat) : Int) = pr := by rw [← hpr]; exact Int.natCast_mul _ _
  have hpr2 : 1048576 < pr := by generalize a.length * b.length = pn at *; omega
  have hpr1 : pr ≤ 17592186044416 := by
    have := Nat.mul_le_mul hal hbl
    generalize a.length * b.length = pn at *; omega
  have hprw : IntKind.i64.wrap pr = pr := IntWalk.i64_in _ (by omega)
  clear ha hb hm hpn
  go_enter Try.func23, Try.ntmps23
  go_wp2_with fail
  go_ret2
  exact ⟨rfl, rfl⟩
end Go.Proofs.Ytaajfekolokaoaa
