/- Rules: where each stands. -/
import Derived.Test.YthigepjddfdbmaaDoorGlobM
namespace Go.Proofs.YthigepjddfdbmaaDoor
open Go.RowKit Go.Lib

abbrev psK (rs : List RuleN) (k : Nat) : List PieceN := (rs.getD k ⟨[], false⟩).ps
/-- Rows of places, of which the first n are made. -/
structure PlAt (W : World) (B ab : Nat) (rs : List RuleN) (n : Nat) (cb : Nat → Nat) (fs : Nat → Nat → Bool) : Prop where
  lt : ab < W.heap.size
  lo : B ≤ ab
  ex : ∀ k, k < rs.length → ∃ v, W.cell? ⟨ab, k, none⟩ = some v
  fr : ∀ k, W.frozen? ⟨ab, k, none⟩ = false
  cs : ∀ k, k < n → W.cell? ⟨ab, k, none⟩ = some (.slice (some ⟨cb k, 0, none⟩) ((psK rs k).length + 1) ((psK rs k).length + 1))
  bits : ∀ k, k < n → Bits W (cb k) ((psK rs k).length + 1) (fs k)
  ne : ∀ k, k < n → B ≤ cb k ∧ cb k ≠ ab
  inj : ∀ j k, j < n → k < n → cb j = cb k → j = k
/-- Blocks from B on stay. -/
theorem PlAt.kept {W W' : World} {B ab : Nat} {rs : List RuleN} {n : Nat} {cb : Nat → Nat} {fs : Nat → Nat → Bool} (h : PlAt W B ab rs n cb fs) (hk : ∀ q, q < W.heap.size → B ≤ q → W'.heap[q]? = W.heap[q]?) (hs : W.heap.size ≤ W'.heap.size) : PlAt W' B ab rs n cb fs :=
  ⟨Nat.lt_of_lt_of_le h.lt hs, h.lo, fun k hn => by obtain ⟨v, hv⟩ := h.ex k hn; exact ⟨v, (World.cell?_of_block (w := W) (a := ⟨ab, k, none⟩) (hk ab h.lt h.lo)).trans hv⟩, fun k => (World.frozen?_of_block (w := W) (a := ⟨ab, k, none⟩) (hk ab h.lt h.lo)).trans (h.fr k),
    fun k hn => (World.cell?_of_block (w := W) (a := ⟨ab, k, none⟩) (hk ab h.lt h.lo)).trans (h.cs k hn), fun k hn => (h.bits k hn).kept (hk _ (h.bits k hn).lt (h.ne k hn).1) hs, h.ne, h.inj⟩
def updF {α : Type} (f : Nat → α) (k : Nat) (a : α) : Nat → α := fun j => if j = k then a else f j
theorem updF_here {α : Type} (f : Nat → α) (k : Nat) (a : α) : updF f k a k = a := if_pos rfl
theorem updF_else {α : Type} (f : Nat → α) (k : Nat) (a : α) {j : Nat} (h : j ≠ k) : updF f k a j = f j := if_neg h
/-- One row more. -/
theorem PlAt.add {W : World} {B ab : Nat} {rs : List RuleN} {n : Nat} {cb : Nat → Nat} {fs : Nat → Nat → Bool} {c : Nat} {f : Nat → Bool} (h : PlAt W B ab rs n cb fs) (hn : n < rs.length) (hb : Bits W c ((psK rs n).length + 1) f) (hc : B ≤ c ∧ c ≠ ab) (hnew : ∀ k, k < n → cb k ≠ c) :
    PlAt (W.setCell ⟨ab, n, none⟩ (.slice (some ⟨c, 0, none⟩) ((psK rs n).length + 1) ((psK rs n).length + 1))) B ab rs (n + 1) (updF cb n c) (updF fs n f) := by
  have hoth : ∀ k v, W.cell? ⟨ab, k, none⟩ = some v → k ≠ n → (W.setCell ⟨ab, n, none⟩ (.slice (some ⟨c, 0, none⟩) ((psK rs n).length + 1) ((psK rs n).length + 1))).cell? ⟨ab, k, none⟩ = some v := fun k v hv hne => (World.cell?_setCell_other _ _ _ _ (by intro e; injection e with _ e _; exact hne e.symm)).trans hv
  have hblk : ∀ q, q ≠ ab → (W.setCell ⟨ab, n, none⟩ (.slice (some ⟨c, 0, none⟩) ((psK rs n).length + 1) ((psK rs n).length + 1))).heap[q]? = W.heap[q]? := fun q hq => Below.heap_setCell _ _ _ _ hq
  obtain ⟨v0, hv0⟩ := h.ex n hn
  refine ⟨by simpa using h.lt, h.lo, fun k hk => ?_, fun k => by rw [World.frozen?_setCell]; exact h.fr k, fun k hk => ?_, fun k hk => ?_, fun k hk => ?_, fun j k hj hk => ?_⟩
  · by_cases e : k = n
    · subst e; exact ⟨_, World.cell?_setCell_same _ _ _ hv0⟩
    · obtain ⟨v, hv⟩ := h.ex k hk
      exact ⟨v, hoth k v hv e⟩
  · by_cases e : k = n
    · subst e; rw [updF_here]; exact World.cell?_setCell_same _ _ _ hv0
    · rw [updF_else _ _ _ e]; exact hoth k _ (h.cs k (by omega)) e
  · by_cases e : k = n
    · subst e; rw [updF_here, updF_here]; exact hb.kept (hblk _ hc.2) (by simp)
    · rw [updF_else _ _ _ e, updF_else _ _ _ e]; exact (h.bits k (by omega)).kept (hblk _ (h.ne k (by omega)).2) (by simp)
  · by_cases e : k = n
    · subst e; rw [updF_here]; exact hc
    · rw [updF_else _ _ _ e]; exact h.ne k (by omega)
  · by_cases e1 : j = n <;> by_cases e2 : k = n
    · intro _; omega
    · subst e1; rw [updF_here, updF_else _ _ _ e2]; intro e; exact absurd e.symm (hnew k (by omega))
    · subst e2; rw [updF_here, updF_else _ _ _ e1]; intro e; exact absurd e (hnew j (by omega))
    · rw [updF_else _ _ _ e1, updF_else _ _ _ e2]; exact h.inj j k (by omega) (by omega)
theorem PlAt.empty {W w1 : World} {n : Nat} {rs : List RuleN} (hn : rs.length = n) (hown : w1.ownsRow W.heap.size 53 1 (.slice (some ⟨W.heap.size, 0, none⟩) n n) n (madeCells (Value.slice none 0 0).cells (n * 1)).toList) (hlt : W.heap.size < w1.heap.size) : PlAt w1 W.heap.size W.heap.size rs 0 (fun _ => 0) (fun _ _ => false) := by
  refine ⟨hlt, Nat.le_refl _, fun k hk => ⟨.slice none 0 0, ?_⟩, fun k => hown.frozenAt k, fun k hk => by omega, fun k hk => by omega, fun k hk => by omega, fun j k hj => by omega⟩
  rw [hown.cellAt k (by omega)]
  show (madeCells #[Value.slice none 0 0] (n * 1)).toList[k]? = _
  rw [toList_madeCells_one, List.getElem?_replicate, if_pos (by omega)]
theorem Tryd.info53g : (Tryd.prog.info? 53).map (fun i => (i.zero, i.size, i.bytes)) = some (some (.slice none 0 0), 1, 24) := by kernel_rfl
set_option maxRecDepth 100000 in
set_option maxHeartbeats 4000000 in
theorem starts_any (S : Nat → Prop) (rb : Nat) (rs : List RuleN) (w : World) (hS : ∀ k, S k → k < w.heap.size) (h : RulesAt S w rb rs) :
    Calls Tryd.prog 34 #[.pointer (some ⟨rb, 0, none⟩)] w fun e w' => ∃ ab cb fs, e = .returned (.slice (some ⟨ab, 0, none⟩) rs.length rs.length) ∧ PlAt w' w.heap.size ab rs rs.length cb fs ∧ (∀ k, k < rs.length → StandF (psK rs k) [] (fs k)) ∧ Below w.heap.size w w' := by
  obtain ⟨i0, hi, hz0, hz1, hz2⟩ := info_parts Tryd.info53g
  have hl := h.2.2
  have H := Lib.hid (fun (W : World) (hb : Below w.heap.size w W) => h.kept (S' := S) (w' := W) (fun k hk => ⟨hk, hb.block k (hS k hk)⟩))
  have HS := Lib.hid hS
  obtain ⟨hrb, ⟨v, hv, hr⟩, _⟩ := h
  obtain ⟨a, c, rfl⟩ := RowsC.shape hr
  have HV := Lib.hid hv
  have HR := Lib.hid (fun (W : World) (hb : Below w.heap.size w W) => RowsC.kept rule_keeps hr (S' := S) (w' := W) (fun k hk => ⟨hk, hb.block k (hS k hk)⟩))
  have hrbl := hS rb hrb
  clear hr hS
  go_enter Tryd.func34, Tryd.ntmps34
  go_upto_region 2 with (at_make; refine wpList_make_full _ rfl _ _ 63 rfl w.heap.size 53 i0 (.slice none 0 0) 1 Tryd.underlying63 hi hz0 hz1 .i64 .i64 _ _ rs.length rfl rfl (by omega) (by omega) (by rw [hz2]; omega) (by unfold maxLen; omega) (by omega) ?_; intro w1 hown hgrow)
  have hlt1 : w.heap.size < w1.heap.size := (hown.lt _ rfl).2
  have HB1 : Hid (Below w.heap.size w w1) := Lib.hid ((Below.refl _ w).grown hgrow (by omega) (fun j hj => by cases hj))
  have HP0 := Lib.hid (PlAt.empty rfl hown hlt1)
  clear hown hgrow
  obtain ⟨ab, hab⟩ : ∃ ab, w.heap.size = ab := ⟨_, rfl⟩
  have HAB := Lib.hid hab
  have HP1 : Hid (PlAt w1 ab ab rs 0 (fun _ => 0) (fun _ _ => false)) := Lib.hid (by rw [← hab]; exact HP0.out)
  rw [hab]
  clear HP0 hab hlt1
  have cr := (World.cell?_of_block (w := w) (a := ⟨rb, 0, none⟩) (HB1.out.block rb hrbl)).trans HV.out
  go_wp2_with fail
  clear cr
  go_loopw [17] (fun i wr => ∃ (k : Nat) (cb : Nat → Nat) (fs : Nat → Nat → Bool), k ≤ rs.length ∧ i = .int .i64 k ∧ Hid (PlAt wr ab ab rs k cb fs) ∧ Hid (∀ j, j < k → StandF (psK rs j) [] (fs j)) ∧ Hid (Below w.heap.size w wr)) (fun i _ => rs.length - (intOf i).toNat)
  case atStart => exact ⟨0, _, _, Nat.zero_le _, rfl, HP1, Lib.hid (fun j hj => by omega), HB1⟩
  case round =>
    obtain ⟨k, cb, fs, hk, rfl, hP, hSt, hB⟩ := hrel
    by_cases hlt : k < rs.length
    · obtain ⟨g, o, rfl, hSg, hc1, hc2, hat⟩ := RulesC.at (HR.out wr hB.out) (by omega)
      obtain ⟨pb, d0, d1, hpat⟩ := hat k hlt
      have HPAT : Hid (PatAt S wr pb (psK rs k)) := Lib.hid hpat
      clear hat hpat
      obtain ⟨lt, hlet⟩ : ∃ b, (rs.getD k ⟨[], false⟩).lets = b := ⟨_, rfl⟩
      rw [hlet] at d1
      clear hlet
      have HK := Lib.hid (new_five wr #[.pointer (some ⟨pb, 0, none⟩), .bool lt] 62)
      have HBL : Hid (Below wr.heap.size wr (wr.alloc (.cells #[.pointer (some ⟨pb, 0, none⟩), .bool lt] 62))) := Lib.hid ((Below.refl _ wr).alloc (Nat.le_refl _) _)
      go_upto_region 5 with fail
      clear d0 d1
      generalize hwa : wr.alloc (.cells #[.pointer (some ⟨pb, 0, none⟩), .bool lt] 62) = wa at *
      have c0 : wa.cell? ⟨wr.heap.size, 0, none⟩ = some (.pointer (some ⟨pb, 0, none⟩)) := by rw [cell_of_row _ _ _ _ _ _ HK.out]; rfl
      have hBA := hB.out.trans (HBL.out.mono hB.out.size)
      have HBA := Lib.hid hBA
      have HST := Lib.hid (start_any S pb (psK rs k) wa (fun q hq => Nat.lt_of_lt_of_le (HS.out q hq) hBA.size) (HPAT.out.kept (fun q hq => ⟨hq, HBL.out.block q (Nat.lt_of_lt_of_le (HS.out q hq) hB.out.size)⟩)))
      have HPA : Hid (PlAt wa ab ab rs k cb fs) := Lib.hid (hP.out.kept (fun q hq _ => HBL.out.block q hq) HBL.out.size)
      have HSZ : Hid (wr.heap.size ≤ wa.heap.size) := Lib.hid HBL.out.size
      have HLT : Hid (ab < wr.heap.size ∧ ∀ j, j < k → cb j < wr.heap.size) := Lib.hid ⟨hP.out.lt, fun j hj => (hP.out.bits j hj).lt⟩
      clear hwa HK hBA
      go_wp2_with fail
      refine HST.out.mono ?_
      rintro e w5 ⟨cb5, f5, rfl, hb5, hf5, hlo5, hbl5⟩
      have hP5 : PlAt w5 ab ab rs k cb fs := HPA.out.kept (fun q hq _ => hbl5.block q hq) hbl5.size
      have hsz := HSZ.out
      have hlt5 := HLT.out
      have P6 := Lib.hid (hP5.add hlt hb5 ⟨by omega, by omega⟩ (fun j hj e => by have := hlt5.2 j hj; omega))
      have S6 : Hid (∀ j, j < k + 1 → StandF (psK rs j) [] (updF fs k f5 j)) := Lib.hid (fun j hj => by
        by_cases e : j = k
        · subst e; rw [updF_here]; exact hf5
        · rw [updF_else _ _ _ e]; exact hSt.out j (by omega))
      have B6 : Hid (Below w.heap.size w (w5.setCell ⟨ab, k, none⟩ (.slice (some ⟨cb5, 0, none⟩) ((psK rs k).length + 1) ((psK rs k).length + 1)))) := Lib.hid ((HBA.out.trans (hbl5.mono HBA.out.size)).setCell (by show w.heap.size ≤ ab; have := HAB.out; omega) _)
      obtain ⟨v0, hv0⟩ := hP5.ex k hlt
      have hfr := hP5.fr k
      clear hb5 hf5 hlo5 hbl5 hP5 HST hB hP hSt HPA hsz hlt5 c0
      go_wp2_with fail
      go_roundw
      case rel => exact ⟨k + 1, _, _, by omega, by go_num, P6, S6, B6⟩
      case measure => simp [intOf]; omega
    · obtain rfl : k = rs.length := by omega
      go_wp2_with fail
      go_ret
      exact ⟨ab, cb, fs, rfl, by rw [HAB.out]; exact hP.out, hSt.out, hB.out⟩
end Go.Proofs.YthigepjddfdbmaaDoor
