/- The walks of the reference's writers: bytes, number, name, names, seal. -/
import Derived.Test.YtdolonkeanlaoaaDoorObX
import Derived.Test.YtdolonkeanlaoaaDoorDraw
import Derived.IntWalk
namespace Go.Proofs.YtdolonkeanlaoaaDoor
open Go.RowKit
attribute [local simp high] id_size id_zero

theorem wpAnyD_one {P : Program} {ops : Array Oper} {md : Region.Mode} {Q : Exit → Act → World → Prop} {S : World → Prop} {t i fuel : Nat} {o : Oper} {listed : Array Bool} {a : Act} {w : World} (hr : Region.ready md ops listed = [i]) (hit : i ≠ t) (hi : ops[i]? = some o)
    (h : ∀ n (K : Act → World → Prop), (∀ a' w', S w' → wpAnyD P md ops Q S t fuel (listed.setIfInBounds i true) a' w' → K a' w') → if Region.wanted o (yielded ops a.tmps) = true then Oper.wp P o a (w.drewN n) K Q else K (a.put o.dst undef) (w.drewN n)) : wpAnyD P md ops Q S t (fuel + 1) listed a w := by
  refine ⟨fun h0 => (by rw [h0] at hr; cases hr), fun j hj _ n => ?_, fun ht => (by rw [hr, List.mem_singleton] at ht; exact absurd ht.symm hit)⟩
  rw [hr, List.mem_singleton] at hj
  subst hj
  have h1 := h n _ (fun a' w' h2 h3 => And.intro h2 h3)
  unfold Go.wpOp
  simp only [hi]
  split at h1
  · rename_i hw; rw [if_pos hw]; exact Or.inl h1
  · rename_i hw; rw [if_neg hw]; exact h1
/-- Five cells that stand in a block of their own, as a list of one value. -/
theorem five_at (w : World) (b : Nat) (cs : List Value) (h : w.heap[b]? = some (.cells cs.toArray 53 (0, 0))) (h1 : ∀ u ∈ cs, u.oneCell' = true) (h5 : cs.length = 5 := by rfl) : Src Tryd.prog 5 51 (.slice (some ⟨b, 0, none⟩) 1 1) 1 cs w :=
  Src.ofSlice _ Tryd.underlying51 _ 1 1 _ (by rw [h5]) (fun j u hj => by
    rw [Addr.add_mid, Nat.zero_add, cell_of_row _ _ _ _ _ _ h]
    simpa using hj) h1
theorem Rows5.grow7 {B : Nat} {w w2 w3 w4 : World} {n : Nat} {v v' : Value} {qs : List Five} {ys : List Val} {q : Five} {y : Val} {nq : Nat} (h : Rows5 B w n v qs ys) (hB : B ≤ w.heap.size) (hs2 : w.heap.size ≤ w2.heap.size) (hk : ∀ k, k < w.heap.size → w2.heap[k]? = w.heap[k]?)
    (hy : ReadsS (fun k => w.heap.size ≤ k ∧ k < w2.heap.size) w2 n q.agg y) (hs3 : w3.heap.size = w2.heap.size + 1) (hk3 : ∀ k, k < w2.heap.size → w3.heap[k]? = w2.heap[k]?) (hg : Grew (w3.drewN nq) w4 v v') (hown : w4.ownsRow B 53 5 v' (qs.length + 1) (qs.flatMap Five.flat ++ q.flat)) : Rows5 B w4 n v' (qs ++ [q]) (ys ++ [y]) := by
  have hs4 : w3.heap.size ≤ w4.heap.size := hg.size
  have hvb : ∀ k, v.ownBlock = some k → B ≤ k ∧ k < w.heap.size := fun k hk => World.ownsRow.lt h.own k hk
  have keep : ∀ k, B ≤ k → k < w2.heap.size → v.ownBlock ≠ some k → (B ≤ k ∧ k < w4.heap.size ∧ v'.ownBlock ≠ some k) ∧ w4.heap[k]? = w2.heap[k]? := by
    intro k k1 k2 k3
    refine ⟨⟨k1, by omega, fun e => ?_⟩, ?_⟩
    · rcases hg.own k e with e2 | e2
      · exact k3 e2
      · have e2 : w3.heap.size ≤ k := e2
        omega
    · rw [hg.gb.block k (by show k < w3.heap.size; omega) (fun e => k3 e.symm)]
      exact hk3 k k2
  refine ⟨?_, by simp [h.len], fun j p z hp hz => ?_⟩
  · rw [List.flatMap_append, List.length_append]; simpa using hown
  · by_cases hj : j < qs.length
    · rw [List.getElem?_append_left hj] at hp
      rw [List.getElem?_append_left (by rw [← h.len]; exact hj)] at hz
      refine ReadsS.kept (fun k hk1 => ?_) n _ _ (h.each j p z hp hz)
      obtain ⟨k1, k2, k3⟩ := hk1
      have a := keep k k1 (by omega) k3
      exact ⟨a.1, a.2.trans (hk k k2)⟩
    · have hj2 : j = qs.length := by
        have := (List.getElem?_eq_some_iff.1 hp).1
        simp at this; omega
      subst hj2
      rw [List.getElem?_append_right (Nat.le_refl _), Nat.sub_self] at hp
      rw [h.len, List.getElem?_append_right (Nat.le_refl _), Nat.sub_self] at hz
      simp at hp hz
      subst hp hz
      refine ReadsS.kept (fun k hk1 => ?_) n _ _ hy
      exact keep k (by omega) hk1.2 (fun e => by have := hvb k e; omega)
theorem Rows5.kept0 {B : Nat} {w w' : World} {n : Nat} {v : Value} {qs : List Five} {ys : List Val} (h : Rows5 B w n v qs ys) (e : w'.heap = w.heap) : Rows5 B w' n v qs ys :=
  ⟨row_kept h.own (fun k _ => by rw [e]), h.len, fun j q y hq hy => ReadsS.kept (fun k hk => ⟨by rw [e]; exact hk, by rw [e]⟩) n _ _ (h.each j q y hq hy)⟩
set_option maxRecDepth 100000 in
set_option maxHeartbeats 400000 in
theorem dbytes_any (l : List UInt8) (w : World) (hl : l.length ≤ 1048576) : Calls Tryd.prog 18 #[.string ⟨l.toArray⟩] w (TextP w l) := by
  have hst := run_storeF
  obtain ⟨cap, w2, hcv, hbc, hbl, hs2⟩ := conv_new (w.alloc (.cells #[.int .i64 0, .int .u64 0, .slice none 0 0, .float .f64 0, .slice none 0 0] 53)) l hl
  have hsa : (w.alloc (.cells #[.int .i64 0, .int .u64 0, .slice none 0 0, .float .f64 0, .slice none 0 0] 53)).heap.size = w.heap.size + 1 := by simp
  rw [hsa] at hcv hbc hs2
  have hst1 : RStart w w2 := RStart.of hbl
  obtain ⟨⟨c0, c1, c2, c3, c4⟩, z0, z1, z2, z3, z4⟩ := five_cells hst1.blk
  have HB := Lib.hid hst1
  have HC := Lib.hid hbc
  have HS := Lib.hid hs2
  clear hbc hbl hsa hs2 hst1
  go_enter Tryd.func18, Tryd.ntmps18
  go_wp2_with fail
  obtain ⟨r0, r1, r2, r3, r4⟩ := set5_cells c0 c1 c2 c3 c4 (.int .i64 1) (.int .u64 0) (.slice (some ⟨w.heap.size + 1, 0, none⟩) l.length cap) (.float .f64 0) (.slice none 0 0)
  unfold set5 at r0 r1 r2 r3 r4
  refine bodyPost_ret (v := .agg #[.int .i64 1, .int .u64 0, .slice (some ⟨w.heap.size + 1, 0, none⟩) l.length cap, .float .f64 0, .slice none 0 0]) (by simp [results, Tryd.results18, go_sem, r0, r1, r2, r3, r4]) rfl ⟨_, rfl, ?_, HB.out.fin _ _ _ _ _⟩
  refine HC.out.kept (w' := set5 w2 w.heap.size (.int .i64 1) (.int .u64 0) (.slice (some ⟨w.heap.size + 1, 0, none⟩) l.length cap) (.float .f64 0) (.slice none 0 0)) (fun k hk => ⟨⟨by omega, ?_⟩, set5_block _ _ _ _ _ _ _ _ (by omega)⟩)
  have e := set5_size w2 w.heap.size (.int .i64 1) (.int .u64 0) (.slice (some ⟨w.heap.size + 1, 0, none⟩) l.length cap) (.float .f64 0) (.slice none 0 0)
  unfold set5 at e
  omega
set_option maxRecDepth 100000 in
set_option maxHeartbeats 400000 in
theorem dnumber_any (n : Nat) (w : World) (hn : n ≤ 1048576) : Calls Tryd.prog 44 #[.int .i64 n] w fun e w' => e = .returned (.agg #[.int .i64 0, .int .u64 n, .slice none 0 0, .float .f64 0, .slice none 0 0]) ∧ Below w.heap.size w w' := by
  have hst := run_storeF
  have hwk : IntKind.u64.wrap (n : Int) = (n : Int) := IntWalk.u64_in _ (by omega)
  go_enter Tryd.func44, Tryd.ntmps44
  go_wp2_with fail
  refine bodyPost_ret (v := .agg #[.int .i64 0, .int .u64 n, .slice none 0 0, .float .f64 0, .slice none 0 0]) (by simp [results, Tryd.results44, go_sem]) rfl ⟨rfl, ?_⟩
  exact (Below.refl _ w).alloc (Nat.le_refl _) _
theorem make32 (W : World) : (Instr.makeSlice 22 (.int .i64 32) (.int .i64 32)).run Tryd.prog W = .ok (.slice (some ⟨W.heap.size, 0, none⟩) 32 32) (W.alloc (.cells (bv zeros).toArray 5)) := by kernel_rfl
/-- Block b holds these 32 bytes. -/
structure RowB (w : World) (b : Nat) (l : List UInt8) : Prop where
  len : l.length = 32
  blk : w.heap[b]? = some (.cells (bv l).toArray 5 (0, 0))
theorem RowB.free {w : World} {b : Nat} {l : List UInt8} (h : RowB w b l) (k : Nat) : w.frozen? ⟨b, k, none⟩ = false := by unfold World.frozen?; rw [h.blk]; simp
theorem RowB.cell {w : World} {b : Nat} {l : List UInt8} (h : RowB w b l) (k : Nat) (hk : k < 32) : ∃ u, w.cell? ⟨b, k, none⟩ = some u := ⟨_, (cell_of_row _ _ _ _ _ _ h.blk).trans (bv_at (by rw [h.len]; exact hk))⟩
theorem RowB.kept {w w' : World} {b : Nat} {l : List UInt8} (h : RowB w b l) (e : w'.heap[b]? = w.heap[b]?) : RowB w' b l := ⟨h.len, e.trans h.blk⟩
theorem RowB.set {w : World} {b : Nat} {l : List UInt8} (h : RowB w b l) (k : Nat) (c : UInt8) : RowB (w.setCell ⟨b, k, none⟩ (.int .u8 (c.toNat : Int))) b (l.set k c) := by
  refine ⟨by rw [List.length_set]; exact h.len, ?_⟩
  have e : c = UInt8.ofNat c.toNat := by simp
  rw [heap_setCell_same w b k _ _ _ h.blk]
  conv => rhs; rw [e, ← bv_set l k c.toNat (UInt8.toNat_lt c)]
  simp
theorem RowB.bytes {w : World} {b : Nat} {l : List UInt8} (h : RowB w b l) : BytesC (fun k => k = b) w (.slice (some ⟨b, 0, none⟩) 32 32) l := by
  refine Or.inr ⟨_, 32, by rw [h.len], by rw [h.len]; exact Nat.le_refl _, by unfold maxLen; omega, Or.inr rfl, fun j u hj => ?_⟩
  rw [Addr.add_mid, Nat.zero_add, cell_of_row w b _ _ _ _ h.blk]
  simpa using hj
theorem zeros_32 : zeros.length = 32 := rfl
theorem fill_next {X Z : List UInt8} {k : Nat} (hX : X.length = 32) (hZ : Z.length = 32) (hk : k < 32) : (X.take k ++ Z.drop k).set k (X.getD k 0) = X.take (k + 1) ++ Z.drop (k + 1) := by
  apply List.ext_getElem?
  intro j
  have e1 : (X.take k).length = k := by rw [List.length_take]; omega
  have e2 : (X.take (k + 1)).length = k + 1 := by rw [List.length_take]; omega
  rw [List.getElem?_set, List.length_append, e1, List.length_drop]
  by_cases h1 : k = j
  · subst h1
    rw [if_pos rfl, if_pos (by omega), List.getElem?_append_left (by omega), List.getElem?_take, if_pos (by omega)]
    simp [List.getD, List.getElem?_eq_getElem (show k < X.length by omega)]
  · rw [if_neg h1]
    by_cases h2 : j < k
    · rw [List.getElem?_append_left (by omega), List.getElem?_append_left (by omega), List.getElem?_take, List.getElem?_take, if_pos h2, if_pos (by omega)]
    · rw [List.getElem?_append_right (by omega), List.getElem?_append_right (by omega), List.getElem?_drop, List.getElem?_drop, e1, e2]
      congr 1; omega
theorem rencA_mono {w w0 : World} {r : Except Int (List UInt8)} {e : Ending} {w' : World} (hb : Below w.heap.size w w0) (h : REncAnswers w0 r e w') : REncAnswers w r e w' := by
  cases r with
  | error c => exact ⟨h.1, hb.trans (h.2.mono hb.size)⟩
  | ok o => exact ⟨h.1, hb.trans (h.2.mono hb.size)⟩
set_option maxRecDepth 100000 in
set_option maxHeartbeats 4000000 in
theorem dseal_any (S : Nat → Prop) (kind : Nat) (v : Value) (vs : List Val) (w : World) (hS : ∀ k, S k → k < w.heap.size) (hk : kind ≤ 1000) (hl : vs.length ≤ 1000) (hv : ListS S w (ReadsS S w 15) v vs) :
    Calls Tryd.prog 17 #[.int .i64 kind, v] w (REncAnswers w (encR (recV kind vs))) := by
  obtain ⟨i0, hi, hz0, hz1, hz2q⟩ := info_parts Tryd.info53
  obtain ⟨qs, hq1, hq2, hq3⟩ := hv.fives
  obtain ⟨va, vc, rfl⟩ := hv.shape
  have HQ2 := Lib.hid hq2
  have HQ3 := Lib.hid hq3
  have HS := Lib.hid hS
  have HQ1 := Lib.hid hq1
  obtain ⟨m, hm⟩ : ∃ m, vs.length = m := ⟨_, rfl⟩
  have HM := Lib.hid hm
  rw [hm] at hl HQ2 ⊢
  clear hv hq1 hq2 hq3 hS hm
  go_enter Tryd.func17, Tryd.ntmps17
  go_wp2_with fail
  refine (dnumber_any kind w (by omega)).mono ?_
  rintro e w1 ⟨rfl, hb1⟩
  have HB1 := Lib.hid hb1
  have hz1s := hb1.size
  have hsrc := ((HQ2.out.kept (S' := S) (w' := w1.alloc (.cells #[.int .i64 0, .int .u64 kind, .slice none 0 0, .float .f64 (0 : Nat), .slice none 0 0] 53)) (fun k hk => ⟨hk, (Below.heap_alloc _ _ _ (by have := HS.out k hk; omega)).trans (hb1.block k (HS.out k hk))⟩))).src (P := Tryd.prog) Tryd.underlying51
  have hown := five_own w1 ⟨.int .i64 0, .int .u64 kind, .slice none 0 0, .float .f64 (0 : Nat), .slice none 0 0⟩
  clear hb1
  go_wp2_with (at_builtin; refine wpList_own_src _ rfl _ _ 51 51 rfl w1.heap.size 53 i0 _ 5 72 Tryd.underlying51 hi hz0 hz1 hz2q rfl (by decide) _ _ _ rfl hown _ _ _ rfl hsrc ?c3 ?c4 ?c5 ?_)
  case c3 => unfold maxLen; omega
  case c4 => omega
  case c5 => simp
  intro v2 w2 hown2 hg2
  have HB2 : Hid (Below w.heap.size w w2) := Lib.hid ((HB1.out.alloc HB1.out.size _).grown hg2.gb (by simp; omega) (fun q hq => by have := (World.ownsRow.lt hown q hq).1; omega))
  have HLS : Hid (ListS (fun k => k < w2.heap.size) w2 (ReadsS (fun k => k < w2.heap.size) w2 15) v2 (numV kind :: vs)) := Lib.hid (by
    refine list_own (qs := ⟨.int .i64 0, .int .u64 kind, .slice none 0 0, .float .f64 (0 : Nat), .slice none 0 0⟩ :: qs) (B := w1.heap.size) ?_ ?_ (fun q hq => (World.ownsRow.lt hown2 q hq).2) ?_
    · rw [List.length_cons, HQ1.out, HM.out, Nat.add_comm, List.flatMap_cons]; exact hown2
    · simp [HQ1.out]
    · intro j q y hj hy
      cases j with
      | zero => simp at hj hy; subst hj hy; exact num_reads 14 kind (by omega)
      | succ j => exact ReadsS.kept (fun k hk => ⟨by have := HS.out k hk; have := HB2.out.size; omega, HB2.out.block k (HS.out k hk)⟩) 15 _ _ (HQ3.out j q y (by simpa using hj) (by simpa using hy)))
  obtain ⟨a2, c2, rfl⟩ := row_shape_any hown2
  have hrd := ReadsS.into (B := w2.heap.size) (fun k hk => hk) 16 _ _ (row_reads (n := 15) HLS.out (by simp; have := HM.out; omega))
  have HE := Lib.hid (rencode_any _ _ w2 hrd)
  have HRV : Hid (encR (rowV (numV kind :: vs)) = encR (recV kind vs)) := Lib.hid rfl
  rw [HRV.out] at HE
  clear hown2 hg2 hown hsrc HLS hrd
  generalize encR (recV kind vs) = r at *
  go_wp2_with fail
  refine HE.out.mono ?_
  intro e w4 h4
  have HA := Lib.hid (rencA_mono HB2.out h4)
  clear h4
  cases r with
  | error c =>
    obtain ⟨rfl, hb4⟩ := HA.out
    have HB4 := Lib.hid hb4
    clear hb4 HA
    go_wp2_with fail
    go_ret2
    exact ⟨rfl, HB4.out⟩
  | ok o =>
    obtain ⟨rfl, hb4⟩ := HA.out
    have HB4 := Lib.hid hb4
    clear hb4 HA
    go_wp2_with fail
    go_ret2
    exact ⟨rfl, HB4.out⟩
end Go.Proofs.YtdolonkeanlaoaaDoor
