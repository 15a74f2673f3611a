/- The row of places: pass, start, end. -/
import Derived.Test.YthigepjddfdbmaaDoorGlobH
namespace Go.Proofs.YthigepjddfdbmaaDoor
open Go.RowKit Go.Lib

/-- A row of marks. -/
structure Bits (w : World) (cb n : Nat) (f : Nat → Bool) : Prop where
  lt : cb < w.heap.size
  cs : ∀ k, k < n → w.cell? ⟨cb, k, none⟩ = some (.bool (f k))
  fr : ∀ k, w.frozen? ⟨cb, k, none⟩ = false
theorem Bits.kept {w w' : World} {cb n : Nat} {f : Nat → Bool} (h : Bits w cb n f) (hk : w'.heap[cb]? = w.heap[cb]?) (hs : w.heap.size ≤ w'.heap.size) : Bits w' cb n f :=
  ⟨Nat.lt_of_lt_of_le h.lt hs, fun k hn => (World.cell?_of_block (w := w) hk).trans (h.cs k hn), fun k => (World.frozen?_of_block (w := w) hk).trans (h.fr k)⟩
theorem Bits.put {w : World} {cb n : Nat} {f f' : Nat → Bool} (h : Bits w cb n f) {k : Nat} (hk : k < n) {r : Bool} (hf : ∀ p, p < n → f' p = (if p = k then r else f p)) : Bits (w.setCell ⟨cb, k, none⟩ (.bool r)) cb n f' := by
  refine ⟨by simpa using h.lt, fun p hp => ?_, fun p => by rw [World.frozen?_setCell]; exact h.fr p⟩
  rw [hf p hp]
  by_cases e : p = k
  · subst e; rw [if_pos rfl]; exact World.cell?_setCell_same _ _ _ (h.cs _ hp)
  · rw [if_neg e, World.cell?_setCell_other _ _ _ _ (by intro c; injection c with _ c _; exact e c.symm)]; exact h.cs p hp
theorem Bits.congr {w : World} {cb n : Nat} {f f' : Nat → Bool} (h : Bits w cb n f) (hf : ∀ p, p < n → f' p = f p) : Bits w cb n f' := ⟨h.lt, fun k hk => by rw [hf k hk]; exact h.cs k hk, h.fr⟩
theorem Bits.made {w w1 : World} {n B : Nat} (hown : w1.ownsRow B 4 1 (.slice (some ⟨w.heap.size, 0, none⟩) n n) n (madeCells (Value.bool false).cells (n * 1)).toList) (hlt : w.heap.size < w1.heap.size) : Bits w1 w.heap.size n (fun _ => false) := by
  refine ⟨hlt, fun k hk => ?_, fun k => hown.frozenAt k⟩
  rw [hown.cellAt k (by omega)]
  show (madeCells #[Value.bool false] (n * 1)).toList[k]? = _
  rw [toList_madeCells_one, List.getElem?_replicate, if_pos (by omega)]
theorem Tryd.info4b : (Tryd.prog.info? 4).map (fun i => (i.zero, i.size, i.bytes)) = some (some (.bool false), 1, 1) := by kernel_rfl
/-- One piece in memory. -/
theorem PiecesC.at {S : Nat → Prop} {w : World} {a : Option Addr} {c : Nat} {ps : List PieceN} (h : PiecesC S w (.slice a ps.length c) ps) (hn : 0 < ps.length) :
    ∃ g o, a = some ⟨g, o, none⟩ ∧ S g ∧ ps.length ≤ c ∧ c ≤ 9223372036854775807 ∧ ∀ k, k < ps.length → ∃ a2 n2 c2, w.cell? ⟨g, o + k * 2, none⟩ = some (.bool (ps.getD k none).isNone) ∧ w.cell? ⟨g, o + k * 2 + 1, none⟩ = some (.slice a2 n2 c2) ∧ ∀ l, ps.getD k none = some l → SignsC S w (.slice a2 n2 c2) l ∧ l.length ≤ 4194304 := by
  obtain ⟨g, o, h1, h2, h3, h4, h5⟩ := RowsC.at h hn
  refine ⟨g, o, h1, h2, h3, h4, fun k hk => ?_⟩
  have he : ps[k]? = some (ps.getD k none) := by simp [List.getD, hk]
  obtain ⟨cs, _, h7, h8⟩ := h5 k _ he
  generalize ps.getD k none = p at *
  cases p with
  | none =>
    obtain rfl : cs = _ := h7
    exact ⟨none, 0, 0, h8 0 _ rfl, h8 1 _ rfl, fun l e => by cases e⟩
  | some l =>
    obtain ⟨v, rfl, h9, h10⟩ := h7
    obtain ⟨a2, c2, rfl⟩ := RowsC.shape h9
    exact ⟨a2, _, c2, h8 0 _ rfl, h8 1 _ rfl, fun l' e => by injection e with e; subst e; exact ⟨h9, h10⟩⟩
/-- Does a piece mean a name? -/
noncomputable def meansB (l : List (Option S4)) (name : Txt) : Bool := @decide (Mt (itemsS l) name) (Classical.propDecidable _)
theorem meansB_iff (l : List (Option S4)) (name : Txt) : meansB l name = true ↔ Mt (itemsS l) name := by unfold meansB; exact @decide_eq_true_iff _ (Classical.propDecidable _)
noncomputable def itemsP (ps : List PieceN) : List (Option (Txt → Bool)) := ps.map (Option.map meansB)
theorem itemsP_len (ps : List PieceN) : (itemsP ps).length = ps.length := by unfold itemsP; simp
theorem itemsP_at {ps : List PieceN} {k : Nat} (h : k < ps.length) : (itemsP ps)[k]? = some ((ps.getD k none).map meansB) := by
  unfold itemsP; simp [List.getD, List.getElem?_eq_getElem h]
/-- Is a piece any number of names? -/
def manyB (ps : List PieceN) (k : Nat) : Bool := (ps.getD k none).isNone
theorem many_iff {ps : List PieceN} {k : Nat} (h : k < ps.length) : (itemsP ps)[k]? = some none ↔ manyB ps k = true := by
  rw [itemsP_at h]; unfold manyB
  cases ps.getD k none <;> simp
/-- What pass makes of the places. -/
def finB (ps : List PieceN) (f : Nat → Bool) : Nat → Bool
  | 0 => f 0
  | i + 1 => f (i + 1) || (manyB ps i && finB ps f i)
theorem finB_succ (ps : List PieceN) (f : Nat → Bool) (i : Nat) : finB ps f (i + 1) = (f (i + 1) || (manyB ps i && finB ps f i)) := rfl
theorem finB_iff {ps : List PieceN} {f : Nat → Bool} {m : Nat → Prop} (hm : ∀ i, i ≤ ps.length → (f i = true ↔ m i)) : ∀ i, i ≤ ps.length → (finB ps f i = true ↔ Fin (itemsP ps) m i)
  | 0, _ => by rw [fin_zero]; exact hm 0 (Nat.zero_le _)
  | i + 1, hi => by
    rw [fin_succ, ← finB_iff hm i (by omega), ← hm (i + 1) hi, many_iff (by omega), finB_succ]
    simp
def passF (ps : List PieceN) (f : Nat → Bool) (k i : Nat) : Bool := if i ≤ k then finB ps f i else f i
theorem passF_zero (ps : List PieceN) (f : Nat → Bool) (i : Nat) : passF ps f 0 i = f i := by
  unfold passF
  by_cases h : i ≤ 0
  · rw [if_pos h]; obtain rfl : i = 0 := by omega
    rfl
  · rw [if_neg h]
theorem passF_here (ps : List PieceN) (f : Nat → Bool) (k : Nat) : passF ps f k k = finB ps f k := by unfold passF; rw [if_pos (Nat.le_refl _)]
theorem passF_yes {ps : List PieceN} {f : Nat → Bool} {k : Nat} (h1 : passF ps f k k = true) (h2 : manyB ps k = true) (i : Nat) : passF ps f (k + 1) i = (if i = k + 1 then true else passF ps f k i) := by
  rw [passF_here] at h1
  unfold passF
  by_cases e : i = k + 1
  · subst e; rw [if_pos (Nat.le_refl _), if_pos rfl, finB_succ, h1, h2]; simp
  · rw [if_neg e]
    by_cases h : i ≤ k
    · rw [if_pos h, if_pos (by omega)]
    · rw [if_neg h, if_neg (by omega)]
theorem passF_no {ps : List PieceN} {f : Nat → Bool} {k : Nat} (h : passF ps f k k = false ∨ manyB ps k = false) (i : Nat) : passF ps f (k + 1) i = passF ps f k i := by
  rw [passF_here] at h
  unfold passF
  by_cases e : i = k + 1
  · subst e
    rw [if_pos (Nat.le_refl _), if_neg (by omega), finB_succ]
    rcases h with h | h <;> rw [h] <;> simp
  · by_cases h : i ≤ k
    · rw [if_pos h, if_pos (by omega)]
    · rw [if_neg h, if_neg (by omega)]
theorem passF_end (ps : List PieceN) (f : Nat → Bool) {i : Nat} (h : i ≤ ps.length) : passF ps f ps.length i = finB ps f i := by unfold passF; rw [if_pos h]
set_option maxRecDepth 100000 in
set_option maxHeartbeats 4000000 in
theorem pass_any (S : Nat → Prop) (pb cb : Nat) (ps : List PieceN) (f : Nat → Bool) (w : World) (hS : ∀ k, S k → k < w.heap.size ∧ k ≠ cb) (h : PatAt S w pb ps) (hb : Bits w cb (ps.length + 1) f) :
    Calls Tryd.prog 48 #[.pointer (some ⟨pb, 0, none⟩), .slice (some ⟨cb, 0, none⟩) (ps.length + 1) (ps.length + 1)] w fun e w' => e = .returned (.tuple #[]) ∧ Bits w' cb (ps.length + 1) (finB ps f) ∧ w.grownBy w' (some cb) := by
  obtain ⟨_, ⟨v, hv, hr⟩, hl⟩ := h
  obtain ⟨a, c, rfl⟩ := RowsC.shape hr
  have H := Lib.hid (fun (W : World) (hg : w.grownBy W (some cb)) => RowsC.kept piece_keeps hr (S' := S) (w' := W) (fun k hk => ⟨hk, hg.block k (hS k hk).1 (fun e => (hS k hk).2 (by injection e with e))⟩))
  have HB0 : Hid (Bits w cb (ps.length + 1) (passF ps f 0)) := Lib.hid (hb.congr (fun p _ => passF_zero ps f p))
  have hcl := hb.lt
  clear hr hb hS
  go_enter Tryd.func48, Tryd.ntmps48
  go_wp2_with fail
  go_loopw [11] (fun i wr => ∃ k : Nat, k ≤ ps.length ∧ i = .int .i64 k ∧ Hid (Bits wr cb (ps.length + 1) (passF ps f k)) ∧ Hid (w.grownBy wr (some cb))) (fun i _ => ps.length - (intOf i).toNat)
  case atStart => exact ⟨0, Nat.zero_le _, rfl, HB0, Lib.hid (World.grownBy.refl _ _)⟩
  case round =>
    obtain ⟨k, hk, rfl, hB, hG⟩ := hrel
    by_cases hlt : k < ps.length
    · obtain ⟨g, o, rfl, hSg, hc1, hc2, hat⟩ := PiecesC.at (H.out wr hG.out) (by omega)
      obtain ⟨a2, n2, c2, d0, d1, _⟩ := hat k hlt
      clear hat
      change wr.cell? _ = some (.bool (manyB ps k)) at d0
      have b0 := hB.out.cs k (by omega)
      have b1 := hB.out.fr (k + 1)
      have HF := Lib.hid (@passF_yes ps f k)
      have HN := Lib.hid (@passF_no ps f k)
      generalize hq1 : passF ps f k k = q1 at *
      generalize hq2 : manyB ps k = q2 at *
      have HK := Lib.hid (new_five wr #[.bool q2, .slice a2 n2 c2] 74)
      have HBL : Hid (Below wr.heap.size wr (wr.alloc (.cells #[.bool q2, .slice a2 n2 c2] 74))) := Lib.hid ((Below.refl _ wr).alloc (Nat.le_refl _) _)
      have HQ1 := Lib.hid hq1
      have HQ2 := Lib.hid hq2
      have HSZ : Hid (wr.heap.size < (wr.alloc (.cells #[.bool q2, .slice a2 n2 c2] 74)).heap.size) := Lib.hid (by simp)
      have HLT : Hid (cb < wr.heap.size) := Lib.hid hB.out.lt
      clear hq1 hq2
      go_upto_region 3 with fail
      clear b0 b1 d0 d1
      generalize wr.alloc (.cells #[.bool q2, .slice a2 n2 c2] 74) = wa at *
      have c0 : wa.cell? ⟨wr.heap.size, 0, none⟩ = some (.bool q2) := by rw [cell_of_row _ _ _ _ _ _ HK.out]; rfl
      have HBA : Hid (Bits wa cb (ps.length + 1) (passF ps f k)) := Lib.hid (hB.out.kept (HBL.out.block cb HLT.out) (Nat.le_of_lt HSZ.out))
      have HGA : Hid (w.grownBy wa (some cb)) := Lib.hid (gb_trans hG.out ⟨HBL.out.os, HBL.out.tape, HBL.out.output, HBL.out.size, fun q hq _ => HBL.out.block q hq⟩)
      have b0 := HBA.out.cs k (by omega)
      have b1 := HBA.out.fr (k + 1)
      have b2 := HBA.out.cs (k + 1) (by omega)
      rw [HQ1.out] at b0
      clear HK hB hG
      cases q1
      · have HF2 : Hid (Bits wa cb (ps.length + 1) (passF ps f (k + 1))) := Lib.hid (HBA.out.congr (fun p _ => HN.out (Or.inl rfl) p))
        go_wp2_with fail
        go_roundw
        case rel => exact ⟨k + 1, by omega, by go_num, HF2, HGA⟩
        case measure => simp [intOf]; omega
      · cases q2
        · have HF2 : Hid (Bits wa cb (ps.length + 1) (passF ps f (k + 1))) := Lib.hid (HBA.out.congr (fun p _ => HN.out (Or.inr rfl) p))
          go_wp2_with fail
          go_roundw
          case rel => exact ⟨k + 1, by omega, by go_num, HF2, HGA⟩
          case measure => simp [intOf]; omega
        · have HF2 : Hid (Bits (wa.setCell ⟨cb, k + 1, none⟩ (.bool true)) cb (ps.length + 1) (passF ps f (k + 1))) := Lib.hid (HBA.out.put (by omega) (fun p _ => HF.out rfl rfl p))
          have HG2 : Hid (w.grownBy (wa.setCell ⟨cb, k + 1, none⟩ (.bool true)) (some cb)) := Lib.hid (gb_trans HGA.out (gb_set _ _ _ _))
          go_wp2_with fail
          go_roundw
          case rel => exact ⟨k + 1, by omega, by go_num, HF2, HG2⟩
          case measure => simp [intOf]; omega
    · obtain rfl : k = ps.length := by omega
      go_wp2_with fail
      go_end0
      exact ⟨rfl, hB.out.congr (fun p hp => (passF_end ps f (by omega)).symm), hG.out⟩
set_option maxRecDepth 100000 in
set_option maxHeartbeats 1000000 in
theorem end_any (cb n : Nat) (f : Nat → Bool) (w : World) (hn : n ≤ 4194304) (hb : Bits w cb (n + 1) f) :
    Calls Tryd.prog 31 #[.slice (some ⟨cb, 0, none⟩) (n + 1) (n + 1)] w fun e w' => e = .returned (.bool (f n)) ∧ Below w.heap.size w w' := by
  have b0 := hb.cs n (by omega)
  have HR := Lib.hid (Below.refl w.heap.size w)
  clear hb
  go_enter Tryd.func31, Tryd.ntmps31
  go_wp2_with fail
  go_ret
  exact ⟨rfl, HR.out⟩
/-- Where the next name may stand. -/
def StandF (ps : List PieceN) (l : List Txt) (f : Nat → Bool) : Prop := ∀ i, i ≤ ps.length → (f i = true ↔ Stand (itemsP ps) l i)
set_option maxRecDepth 100000 in
set_option maxHeartbeats 1000000 in
theorem start_any (S : Nat → Prop) (pb : Nat) (ps : List PieceN) (w : World) (hS : ∀ k, S k → k < w.heap.size) (h : PatAt S w pb ps) :
    Calls Tryd.prog 28 #[.pointer (some ⟨pb, 0, none⟩)] w fun e w' => ∃ cb f, e = .returned (.slice (some ⟨cb, 0, none⟩) (ps.length + 1) (ps.length + 1)) ∧ Bits w' cb (ps.length + 1) f ∧ StandF ps [] f ∧ w.heap.size ≤ cb ∧ Below w.heap.size w w' := by
  obtain ⟨i0, hi, hz0, hz1, hz2⟩ := info_parts Tryd.info4b
  have hl := h.2.2
  have H := Lib.hid (fun (W : World) (hb : Below w.heap.size w W) => h.kept (S' := S) (w' := W) (fun k hk => ⟨hk, hb.block k (hS k hk)⟩))
  obtain ⟨_, ⟨v, hv, hr⟩, _⟩ := h
  obtain ⟨a, c, rfl⟩ := RowsC.shape hr
  have HS := Lib.hid hS
  clear hr hS
  go_enter Tryd.func28, Tryd.ntmps28
  go_upto_region 2 with (at_make; refine wpList_make_full _ rfl _ _ 53 rfl w.heap.size 4 i0 (.bool false) 1 Tryd.underlying53 hi hz0 hz1 .i64 .i64 _ _ (ps.length + 1) rfl rfl (by omega) (by omega) (by rw [hz2]; omega) (by unfold maxLen; omega) (by omega) ?_; intro w1 hown hgrow)
  have hlt1 : w.heap.size < w1.heap.size := (hown.lt _ rfl).2
  have HB1 : Hid (Below w.heap.size w w1) := Lib.hid ((Below.refl _ w).grown hgrow (by omega) (fun j hj => by cases hj))
  have hbt := Bits.made hown hlt1
  have HBT := Lib.hid hbt
  clear hown hgrow
  obtain ⟨cb, hcb⟩ : ∃ cb, w.heap.size = cb := ⟨_, rfl⟩
  have HCB := Lib.hid hcb
  have hbt := HBT.out
  rw [hcb] at hbt
  have b0 := hbt.cs 0 (by omega)
  have b1 := hbt.fr 0
  rw [hcb]
  have HBT2 : Hid (Bits (w1.setCell ⟨cb, 0, none⟩ (.bool true)) cb (ps.length + 1) (fun i => decide (i = 0))) := Lib.hid (hbt.put (by omega) (fun p _ => by by_cases e : p = 0 <;> simp [e]))
  have HB2 : Hid (Below w.heap.size w (w1.setCell ⟨cb, 0, none⟩ (.bool true))) := Lib.hid (HB1.out.setCell (by rw [HCB.out]; exact Nat.le_refl _) _)
  have HP := Lib.hid (pass_any S pb cb ps (fun i => decide (i = 0)) (w1.setCell ⟨cb, 0, none⟩ (.bool true)) (fun k hk => ⟨Nat.lt_of_lt_of_le (HS.out k hk) HB2.out.size, fun e => by have := HS.out k hk; have := HCB.out; omega⟩) (H.out _ HB2.out) HBT2.out)
  clear hbt HBT HBT2 hcb hlt1
  go_wp2_with fail
  refine HP.out.mono ?_
  rintro e w3 ⟨rfl, hb3, hg3⟩
  have HB3 := Lib.hid hb3
  have HG3 : Hid (Below w.heap.size w w3) := Lib.hid (HB2.out.grown hg3 HB2.out.size (fun j hj => by injection hj with hj; have := HCB.out; omega))
  clear hb3 hg3
  go_wp2_with fail
  go_ret
  exact ⟨cb, _, rfl, HB3.out, fun i hi => by rw [finB_iff (m := fun i => i = 0) (fun i _ => by simp) i hi, fin_start i (by rw [itemsP_len]; exact hi)], by have := HCB.out; omega, HG3.out⟩
end Go.Proofs.YthigepjddfdbmaaDoor
