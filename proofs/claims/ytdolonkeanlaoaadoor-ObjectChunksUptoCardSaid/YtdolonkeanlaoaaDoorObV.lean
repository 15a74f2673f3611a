/- The walks of PutChunk, PutTree, PutBlob. -/
import Derived.Test.YtdolonkeanlaoaaDoorObU
namespace Go.Proofs.YtdolonkeanlaoaaDoor
open Go.RowKit
attribute [local simp high] id_size id_zero ent_size ent_zero n32_ne n35_ne

theorem fives_own (w : World) (qs : List Five) (h : qs.length ≤ 1000) : (w.alloc (.cells (qs.flatMap Five.flat).toArray 53)).ownsRow w.heap.size 53 5 (.slice (some ⟨w.heap.size, 0, none⟩) qs.length qs.length) qs.length (qs.flatMap Five.flat) :=
  ⟨flat_len qs, Or.inr ⟨w.heap.size, qs.length, _, rfl, Nat.le_refl _, new_five w _ _, Nat.le_refl _, by unfold maxLen; omega, by rw [List.size_toArray, flat_len], by rw [← flat_len]; exact List.take_of_length_le (Nat.le_refl _)⟩⟩
/-- A literal list of values. -/
theorem lit_list {S : Nat → Prop} {w w' : World} {n : Nat} (qs : List Five) (ys : List Val) (h : qs.length ≤ 1000) (hl : qs.length = ys.length) (hw : w' = w.alloc (.cells (qs.flatMap Five.flat).toArray 53) ∨ w' = (w.alloc (.cells (qs.flatMap Five.flat).toArray 53)).drew) (hS : ∀ k, S k → k < w.heap.size)
    (he : ∀ (j : Nat) (q : Five) (y : Val), qs[j]? = some q → ys[j]? = some y → ReadsS S w n q.agg y) : ListS (fun k => k < w'.heap.size) w' (ReadsS (fun k => k < w'.heap.size) w' n) (.slice (some ⟨w.heap.size, 0, none⟩) qs.length qs.length) ys := by
  have hb : ∀ k : Nat, w'.heap[k]? = (w.alloc (.cells (qs.flatMap Five.flat).toArray 53)).heap[k]? := fun k => by rcases hw with rfl | rfl <;> rfl
  have hz : w'.heap.size = w.heap.size + 1 := by
    rcases hw with rfl | rfl
    · simp
    · show (w.alloc _).heap.size = _; simp
  refine list_own (B := w.heap.size) (own_below (fives_own w qs h) (fun k _ _ => hb k)) hl (fun k hk => ?_) (fun j q y hq hy => ReadsS.kept (fun k hk => ⟨by have := hS k hk; omega, (hb k).trans (Below.heap_alloc _ _ _ (hS k hk))⟩) n _ _ (he j q y hq hy))
  simp [Value.ownBlock] at hk; omega
theorem encA_mono {w w0 : World} {r : Except Int (List UInt8)} {e : Ending} {w' : World} (hb : Below w.heap.size w w0) (h : EncAnswers w0 r e w') : EncAnswers w r e w' := by
  cases r with
  | error c => exact ⟨h.1, hb.trans (h.2.mono hb.size)⟩
  | ok o =>
    obtain ⟨v, h1, h2, h3⟩ := h
    exact ⟨v, h1, h2.mono hb.size, hb.trans (h3.mono hb.size)⟩
set_option maxRecDepth 100000 in
set_option maxHeartbeats 4000000 in
theorem pchunk_any (S : Nat → Prop) (v : Value) (b : List UInt8) (w : World) (hS : ∀ k, S k → k < w.heap.size) (hb : BytesC S w v b) (hbl : b.length ≤ 281474976710656) :
    Calls Tryd.prog 5 #[v] w (EncAnswers w (putChunkR b)) := by
  have HBY := Lib.hid hb
  obtain ⟨va, vc, rfl⟩ := hb.shape
  unfold putChunkR
  obtain ⟨bl, hbl2⟩ : ∃ n, b.length = n := ⟨_, rfl⟩
  have HBL := Lib.hid hbl2
  rw [hbl2] at hbl HBY ⊢
  have HS := Lib.hid hS
  clear hb hS hbl2
  by_cases hl : 262144 < bl
  · rw [if_pos hl]
    go_enter Tryd.func5, Tryd.ntmps5
    go_wp2_with fail
    go_ret2
    exact ⟨rfl, Below.refl _ _⟩
  · rw [if_neg hl]
    have HT := Lib.hid (otext_any S _ b w HBY.out HS.out (by rw [HBL.out]; omega))
    obtain ⟨r, hr⟩ : ∃ r, encR (chunkV b) = r := ⟨_, rfl⟩
    rw [hr]
    have HR := Lib.hid hr
    clear hr
    go_enter Tryd.func5, Tryd.ntmps5
    go_wp2_with fail
    refine HT.out.mono ?_
    rintro e w1 ⟨vb, rfl, hbv, hb1⟩
    obtain ⟨ba, bc, rfl⟩ := hbv.shape
    have hlit := lit_list (S := NewS w w1) (w := w1) (w' := w1.alloc (.cells #[.int .i64 1, .int .u64 0, .slice ba b.length bc, .float .f64 0, .slice none 0 0] 53)) (n := 15) [⟨.int .i64 1, .int .u64 (0 : Nat), .slice ba b.length bc, .float .f64 (0 : Nat), .slice none 0 0⟩] [textV b] (by simp) rfl (Or.inl rfl) (fun k hk => hk.2) (fun j q y hq hy => by
      cases j with
      | zero => simp at hq hy; subst hq hy; exact text_reads 14 hbv (by rw [HBL.out]; omega)
      | succ j => simp at hq)
    have HRC := Lib.hid (record_any _ 1 _ [textV b] _ (fun k hk => hk) (by omega) (by simp) (fun x hx => by rw [List.mem_singleton] at hx; rw [hx]; exact deep_text _ _) hlit)
    have HB1 := Lib.hid (hb1.alloc hb1.size (.cells #[.int .i64 1, .int .u64 0, .slice ba b.length bc, .float .f64 0, .slice none 0 0] 53))
    have HRR : Hid (encR (recV 1 [textV b]) = r) := HR
    rw [HRR.out] at HRC
    rw [HBL.out] at HRC HB1 ⊢
    clear hbv hb1 hlit
    go_wp2_with fail
    refine HRC.out.mono ?_
    intro e w2 h2
    have HA := Lib.hid (encA_mono HB1.out h2)
    clear h2
    cases r with
    | error c =>
      obtain ⟨rfl, hb4⟩ := HA.out
      go_wp2_with fail
      go_ret2
      exact HA.out
    | ok o =>
      obtain ⟨vo, rfl, ho, hb4⟩ := HA.out
      have HO := Lib.hid ho
      have HB4 := Lib.hid hb4
      clear HA ho hb4
      go_wp2_with fail
      go_ret2
      exact ⟨_, rfl, HO.out, HB4.out⟩
set_option maxRecDepth 100000 in
set_option maxHeartbeats 4000000 in
theorem ptree_any (S : Nat → Prop) (v : Value) (l : List EntN) (w : World) (hS : ∀ k, S k → k < w.heap.size) (hv : EntsC S w v l) (hl : l.length ≤ 1048576) (hid : ∀ e ∈ l, e.name.length ≤ 1048576 ∧ e.id.length = 32 ∧ e.stamp < 18446744073709551616) :
    Calls Tryd.prog 13 #[v] w (EncAnswers w (putTreeR l)) := by
  obtain ⟨va, vc, rfl⟩ := RowsC.shape hv
  unfold putTreeR
  obtain ⟨m, hm⟩ : ∃ n, l.length = n := ⟨_, rfl⟩
  have HM := Lib.hid hm
  have HV : Hid (∀ W, Below w.heap.size w W → EntsC S W (.slice va m vc) l) := Lib.hid (fun W hW => by rw [← hm]; exact RowsC.kept ent_keeps hv (fun k hk => ⟨hk, hW.block k (hS k hk)⟩))
  have HCE := Lib.hid (checkE_any S _ l w hS hv (fun e he => by have := (hid e he).1; omega) hl)
  have HWE : Hid (∀ W, Below w.heap.size w W → Calls Tryd.prog 38 #[.slice va m vc] W (ValP 15 (rowV (l.map fun e => entV (canonE e))) W)) := Lib.hid (fun W hW => wents_any S _ l W (fun k hk => Nat.lt_of_lt_of_le (hS k hk) hW.size) (by rw [← hm]; exact RowsC.kept ent_keeps hv (fun k hk => ⟨hk, hW.block k (hS k hk)⟩)) hl hid)
  rw [hm] at hl HCE ⊢
  clear hv hS hm hid HV
  by_cases hg : 1024 < m
  · rw [if_pos hg]
    go_enter Tryd.func13, Tryd.ntmps13
    go_wp2_with fail
    go_ret2
    exact ⟨rfl, Below.refl _ _⟩
  · rw [if_neg hg]
    obtain ⟨oe, hoe⟩ : ∃ c, orderE l = c := ⟨_, rfl⟩
    rw [hoe] at HCE ⊢
    obtain ⟨r, hr⟩ : ∃ r, encR (treeV l) = r := ⟨_, rfl⟩
    rw [hr]
    have HR : Hid (encR (recV 3 [rowV (l.map fun e => entV (canonE e))]) = r) := Lib.hid (by
      rw [← hr, ← (tree_canon l).enc]
      unfold treeV
      rw [List.map_map]
      rfl)
    clear hr hoe
    by_cases h0 : oe = 0
    · subst h0
      rw [if_neg (by simp)]
      go_enter Tryd.func13, Tryd.ntmps13
      go_wp2_with fail
      refine HCE.out.mono ?_
      rintro e w1 ⟨rfl, hb1⟩
      have HB1 := Lib.hid hb1
      clear hb1
      go_wp2_with fail
      refine (HWE.out w1 HB1.out).mono ?_
      rintro e w2 ⟨vx, rfl, hx, hb2⟩
      obtain ⟨a1, c1, a2, c2, rfl, _⟩ := hx.parts
      have hlit := lit_list (S := NewS w1 w2) (w := w2) (w' := w2.alloc (.cells #[.int .i64 3, .int .u64 (0 : Nat), .slice a1 0 c1, .float .f64 (0 : Nat), .slice a2 (l.map fun e => entV (canonE e)).length c2] 53)) (n := 15) [⟨.int .i64 3, .int .u64 (0 : Nat), .slice a1 0 c1, .float .f64 (0 : Nat), .slice a2 (l.map fun e => entV (canonE e)).length c2⟩] [rowV (l.map fun e => entV (canonE e))] (by simp) rfl (Or.inl rfl) (fun k hk => hk.2) (fun j q y hq hy => by
        cases j with
        | zero => simp only [List.getElem?_cons_zero, Option.some.injEq] at hq hy; subst hq hy; exact hx
        | succ j => simp at hq)
      have HRC := Lib.hid (record_any _ 3 _ [rowV (l.map fun e => entV (canonE e))] _ (fun k hk => hk) (by omega) (by simp) (fun x hx => by rw [List.mem_singleton] at hx; rw [hx]; exact deep_row (n := 14) (fun y hy => by obtain ⟨z, _, rfl⟩ := List.mem_map.1 hy; exact deep_ent _ _)) hlit)
      have hb12 := HB1.out.trans (hb2.mono HB1.out.size)
      have HB2 := Lib.hid (hb12.alloc hb12.size (.cells #[.int .i64 3, .int .u64 (0 : Nat), .slice a1 0 c1, .float .f64 (0 : Nat), .slice a2 (l.map fun e => entV (canonE e)).length c2] 53))
      rw [HR.out] at HRC
      have HX := Lib.hid hx
      clear hx hb2 hlit hb12
      change Hid (Calls _ _ _ (w2.alloc (.cells #[.int .i64 3, .int .u64 (0 : Nat), .slice a1 0 c1, .float .f64 (0 : Nat), .slice a2 (l.map fun e => entV (canonE e)).length c2] _)) _) at HRC
      simp only [rowV, Val.kind, Val.num, Val.bytes, Val.real, Val.list, List.length_nil]
      obtain ⟨ml, hml⟩ : ∃ n, (l.map fun e => entV (canonE e)).length = n := ⟨_, rfl⟩
      rw [hml] at HRC HB2 ⊢
      clear hml HX
      go_wp2_with fail
      refine HRC.out.mono ?_
      intro e w3 h2
      have HA := Lib.hid (encA_mono HB2.out h2)
      clear h2
      cases r with
      | error c =>
        obtain ⟨rfl, hb4⟩ := HA.out
        go_wp2_with fail
        go_ret2
        exact HA.out
      | ok o =>
        obtain ⟨vo, rfl, ho, hb4⟩ := HA.out
        have HO := Lib.hid ho
        have HB4 := Lib.hid hb4
        clear HA ho hb4
        go_wp2_with fail
        go_ret2
        exact ⟨_, rfl, HO.out, HB4.out⟩
    · have g : (oe == 0) = false := by rw [beq_eq_false_iff_ne]; exact h0
      rw [if_pos h0]
      clear h0
      go_enter Tryd.func13, Tryd.ntmps13
      go_wp2_with fail
      refine HCE.out.mono ?_
      rintro e w1 ⟨rfl, hb1⟩
      have HB1 := Lib.hid hb1
      clear hb1
      go_wp2_with fail
      go_ret2
      exact ⟨rfl, HB1.out⟩
end Go.Proofs.YtdolonkeanlaoaaDoor
