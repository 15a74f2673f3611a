/- The walks of the reference's writers: bytes, number, name, names, seal. -/
import Derived.Test.YtdolonkeanlaoaaObX
import Derived.Test.YtdolonkeanlaoaaDraw
import Derived.IntWalk
namespace Go.Proofs.Ytdolonkeanlaoaa
open Go.RowKit
attribute [local simp high] id_size id_zero

theorem wpAnyD_one {P : Program} {ops : Array Oper} {md : Region.Mode} {Q : Exit → Act → World → Prop} {S : World → Prop} {t i fuel : Nat} {o : Oper} {listed : Array Bool} {a : Act} {w : World} (hr : Region.ready md ops listed = [i]) (hit : i ≠ t) (hi : ops[i]? = some o)
    (h : ∀ n (K : Act → World → Prop), (∀ a' w', S w' → wpAnyD P md ops Q S t fuel (listed.setIfInBounds i true) a' w' → K a' w') → if Region.wanted o (yielded ops a.tmps) = true then Oper.wp P o a (w.drewN n) K Q else K (a.put o.dst undef) (w.drewN n)) : wpAnyD P md ops Q S t (fuel + 1) listed a w := by
  refine ⟨fun h0 => (by rw [h0] at hr; cases hr), fun j hj _ n => ?_, fun ht => (by rw [hr, List.mem_singleton] at ht; exact absurd ht.symm hit)⟩
  rw [hr, List.mem_singleton] at hj
  subst hj
  have h1 := h n _ (fun a' w' h2 h3 => And.intro h2 h3)
  unfold Go.wpOp
  simp only [hi]
  split at h1
  · rename_i hw; rw [if_pos hw]; exact Or.inl h1
  · rename_i hw; rw [if_neg hw]; exact h1
/-- Five cells that stand in a block of their own, as a list of one value. -/
theorem five_at (w : World) (b : Nat) (cs : List Value) (h : w.heap[b]? = some (.cells cs.toArray 82 (0, 0))) (h1 : ∀ u ∈ cs, u.oneCell' = true) (h5 : cs.length = 5 := by rfl) : Src Try.prog 5 80 (.slice (some ⟨b, 0, none⟩) 1 1) 1 cs w :=
  Src.ofSlice _ Try.underlying80 _ 1 1 _ (by rw [h5]) (fun j u hj => by
    rw [Addr.add_mid, Nat.zero_add, cell_of_row _ _ _ _ _ _ h]
    simpa using hj) h1
theorem Rows5.grow7 {B : Nat} {w w2 w3 w4 : World} {n : Nat} {v v' : Value} {qs : List Five} {ys : List Val} {q : Five} {y : Val} {nq : Nat} (h : Rows5 B w n v qs ys) (hB : B ≤ w.heap.size) (hs2 : w.heap.size ≤ w2.heap.size) (hk : ∀ k, k < w.heap.size → w2.heap[k]? = w.heap[k]?)
    (hy : ReadsS (fun k => w.heap.size ≤ k ∧ k < w2.heap.size) w2 n q.agg y) (hs3 : w3.heap.size = w2.heap.size + 1) (hk3 : ∀ k, k < w2.heap.size → w3.heap[k]? = w2.heap[k]?) (hg : Grew (w3.drewN nq) w4 v v') (hown : w4.ownsRow B 82 5 v' (qs.length + 1) (qs.flatMap Five.flat ++ q.flat)) : Rows5 B w4 n v' (qs ++ [q]) (ys ++ [y]) := by
  have hs4 : w3.heap.size ≤ w4.heap.size := hg.size
  have hvb : ∀ k, v.ownBlock = some k → B ≤ k ∧ k < w.heap.size := fun k hk => World.ownsRow.lt h.own k hk
  have keep : ∀ k, B ≤ k → k < w2.heap.size → v.ownBlock ≠ some k → (B ≤ k ∧ k < w4.heap.size ∧ v'.ownBlock ≠ some k) ∧ w4.heap[k]? = w2.heap[k]? := by
    intro k k1 k2 k3
    refine ⟨⟨k1, by omega, fun e => ?_⟩, ?_⟩
    · rcases hg.own k e with e2 | e2
      · exact k3 e2
      · have e2 : w3.heap.size ≤ k := e2
        omega
    · rw [hg.gb.block k (by show k < w3.heap.size; omega) (fun e => k3 e.symm)]
      exact hk3 k k2
  refine ⟨?_, by simp [h.len], fun j p z hp hz => ?_⟩
  · rw [List.flatMap_append, List.length_append]; simpa using hown
  · by_cases hj : j < qs.length
    · rw [List.getElem?_append_left hj] at hp
      rw [List.getElem?_append_left (by rw [← h.len]; exact hj)] at hz
      refine ReadsS.kept (fun k hk1 => ?_) n _ _ (h.each j p z hp hz)
      obtain ⟨k1, k2, k3⟩ := hk1
      have a := keep k k1 (by omega) k3
      exact ⟨a.1, a.2.trans (hk k k2)⟩
    · have hj2 : j = qs.length := by
        have := (List.getElem?_eq_some_iff.1 hp).1
        simp at this; omega
      subst hj2
      rw [List.getElem?_append_right (Nat.le_refl _), Nat.sub_self] at hp
      rw [h.len, List.getElem?_append_right (Nat.le_refl _), Nat.sub_self] at hz
      simp at hp hz
      subst hp hz
      refine ReadsS.kept (fun k hk1 => ?_) n _ _ hy
      exact keep k (by omega) hk1.2 (fun e => by have := hvb k e; omega)
theorem Rows5.kept0 {B : Nat} {w w' : World} {n : Nat} {v : Value} {qs : List Five} {ys : List Val} (h : Rows5 B w n v qs ys) (e : w'.heap = w.heap) : Rows5 B w' n v qs ys :=
  ⟨row_kept h.own (fun k _ => by rw [e]), h.len, fun j q y hq hy => ReadsS.kept (fun k hk => ⟨by rw [e]; exact hk, by rw [e]⟩) n _ _ (h.each j q y hq hy)⟩
set_option maxRecDepth 100000 in
set_option maxHeartbeats 400000 in
theorem dbytes_any (l : List UInt8) (w : World) (hl : l.length ≤ 1048576) : Calls Try.prog 43 #[.string ⟨l.toArray⟩] w (TextP w l) := by
  have hst := run_storeF
  obtain ⟨cap, w2, hcv, hbc, hbl, hs2⟩ := conv_new (w.alloc (.cells #[.int .i64 0, .int .u64 0, .slice none 0 0, .float .f64 0, .slice none 0 0] 82)) l hl
  have hsa : (w.alloc (.cells #[.int .i64 0, .int .u64 0, .slice none 0 0, .float .f64 0, .slice none 0 0] 82)).heap.size = w.heap.size + 1 := by simp
  rw [hsa] at hcv hbc hs2
  have hst1 : RStart w w2 := RStart.of hbl
  obtain ⟨⟨c0, c1, c2, c3, c4⟩, z0, z1, z2, z3, z4⟩ := five_cells hst1.blk
  have HB := Lib.hid hst1
  have HC := Lib.hid hbc
  have HS := Lib.hid hs2
  clear hbc hbl hsa hs2 hst1
  go_enter Try.func43, Try.ntmps43
  go_wp2_with fail
  obtain ⟨r0, r1, r2, r3, r4⟩ := set5_cells c0 c1 c2 c3 c4 (.int .i64 1) (.int .u64 0) (.slice (some ⟨w.heap.size + 1, 0, none⟩) l.length cap) (.float .f64 0) (.slice none 0 0)
  unfold set5 at r0 r1 r2 r3 r4
  refine bodyPost_ret (v := .agg #[.int .i64 1, .int .u64 0, .slice (some ⟨w.heap.size + 1, 0, none⟩) l.length cap, .float .f64 0, .slice none 0 0]) (by simp [results, Try.results43, go_sem, r0, r1, r2, r3, r4]) rfl ⟨_, rfl, ?_, HB.out.fin _ _ _ _ _⟩
  refine HC.out.kept (w' := set5 w2 w.heap.size (.int .i64 1) (.int .u64 0) (.slice (some ⟨w.heap.size + 1, 0, none⟩) l.length cap) (.float .f64 0) (.slice none 0 0)) (fun k hk => ⟨⟨by omega, ?_⟩, set5_block _ _ _ _ _ _ _ _ (by omega)⟩)
  have e := set5_size w2 w.heap.size (.int .i64 1) (.int .u64 0) (.slice (some ⟨w.heap.size + 1, 0, none⟩) l.length cap) (.float .f64 0) (.slice none 0 0)
  unfold set5 at e
  omega
set_option maxRecDepth 100000 in
set_option maxHeartbeats 400000 in
theorem dnumber_any (n : Nat) (w : World) (hn : n ≤ 1048576) : Calls Try.prog 39 #[.int .i64 n] w fun e w' => e = .returned (.agg #[.int .i64 0, .int .u64 n, .slice none 0 0, .float .f64 0, .slice none 0 0]) ∧ Below w.heap.size w w' := by
  have hst := run_storeF
  have hwk : IntKind.u64.wrap (n : Int) = (n : Int) := IntWalk.u64_in _ (by omega)
  go_enter Try.func39, Try.ntmps39
  go_wp2_with fail
  refine bodyPost_ret (v := .agg #[.int .i64 0, .int .u64 n, .slice none 0 0, .float .f64 0, .slice none 0 0]) (by simp [results, Try.results39, go_sem]) rfl ⟨rfl, ?_⟩
  exact (Below.refl _ w).alloc (Nat.le_refl _) _
theorem make32 (W : World) : (Instr.makeSlice 32 (.int .i64 32) (.int .i64 32)).run Try.prog W = .ok (.slice (some ⟨W.heap.size, 0, none⟩) 32 32) (W.alloc (.cells (bv zeros).toArray 5)) := by kernel_rfl
/-- Block b holds these 32 bytes. -/
structure RowB (w : World) (b : Nat) (l : List UInt8) : Prop where
  len : l.length = 32
  blk : w.heap[b]? = some (.cells (bv l).toArray 5 (0, 0))
theorem RowB.free {w : World} {b : Nat} {l : List UInt8} (h : RowB w b l) (k : Nat) : w.frozen? ⟨b, k, none⟩ = false := by unfold World.frozen?; rw [h.blk]; simp
theorem RowB.cell {w : World} {b : Nat} {l : List UInt8} (h : RowB w b l) (k : Nat) (hk : k < 32) : ∃ u, w.cell? ⟨b, k, none⟩ = some u := ⟨_, (cell_of_row _ _ _ _ _ _ h.blk).trans (bv_at (by rw [h.len]; exact hk))⟩
theorem RowB.kept {w w' : World} {b : Nat} {l : List UInt8} (h : RowB w b l) (e : w'.heap[b]? = w.heap[b]?) : RowB w' b l := ⟨h.len, e.trans h.blk⟩
theorem RowB.set {w : World} {b : Nat} {l : List UInt8} (h : RowB w b l) (k : Nat) (c : UInt8) : RowB (w.setCell ⟨b, k, none⟩ (.int .u8 (c.toNat : Int))) b (l.set k c) := by
  refine ⟨by rw [List.length_set]; exact h.len, ?_⟩
  have e : c = UInt8.ofNat c.toNat := by simp
  rw [heap_setCell_same w b k _ _ _ h.blk]
  conv => rhs; rw [e, ← bv_set l k c.toNat (UInt8.toNat_lt c)]
  simp
theorem RowB.bytes {w : World} {b : Nat} {l : List UInt8} (h : RowB w b l) : BytesC (fun k => k = b) w (.slice (some ⟨b, 0, none⟩) 32 32) l := by
  refine Or.inr ⟨_, 32, by rw [h.len], by rw [h.len]; exact Nat.le_refl _, by unfold maxLen; omega, Or.inr rfl, fun j u hj => ?_⟩
  rw [Addr.add_mid, Nat.zero_add, cell_of_row w b _ _ _ _ h.blk]
  simpa using hj
theorem zeros_32 : zeros.length = 32 := rfl
theorem fill_next {X Z : List UInt8} {k : Nat} (hX : X.length = 32) (hZ : Z.length = 32) (hk : k < 32) : (X.take k ++ Z.drop k).set k (X.getD k 0) = X.take (k + 1) ++ Z.drop (k + 1) := by
  apply List.ext_getElem?
  intro j
  have e1 : (X.take k).length = k := by rw [List.length_take]; omega
  have e2 : (X.take (k + 1)).length = k + 1 := by rw [List.length_take]; omega
  rw [List.getElem?_set, List.length_append, e1, List.length_drop]
  by_cases h1 : k = j
  · subst h1
    rw [if_pos rfl, if_pos (by omega), List.getElem?_append_left (by omega), List.getElem?_take, if_pos (by omega)]
    simp [List.getD, List.getElem?_eq_getElem (show k < X.length by omega)]
  · rw [if_neg h1]
    by_cases h2 : j < k
    · rw [List.getElem?_append_left (by omega), List.getElem?_append_left (by omega), List.getElem?_take, List.getElem?_take, if_pos h2, if_pos (by omega)]
    · rw [List.getElem?_append_right (by omega), List.getElem?_append_right (by omega), List.getElem?_drop, List.getElem?_drop, e1, e2]
      congr 1; omega
set_option maxRecDepth 100000 in
set_option maxHeartbeats 4000000 in
theorem dname_any (X : List UInt8) (w : World) (hX : X.length = 32) : Calls Try.prog 44 #[.agg (bv X).toArray] w (TextP w X) := by
  have hst := run_storeF
  have hmk := make32
  obtain ⟨w3, hw3⟩ : ∃ w3, w3 = (((w.alloc (.cells (bv X).toArray 27)).alloc (.cells #[.int .i64 0, .int .u64 0, .slice none 0 0, .float .f64 0, .slice none 0 0] 82)).alloc (.cells (bv zeros).toArray 5)) := ⟨_, rfl⟩
  have I1 : Hid (IDAt w3 w.heap.size X) := Lib.hid ⟨hX, by rw [hw3]; exact (Below.heap_alloc _ _ _ (by simp; omega)).trans ((Below.heap_alloc _ _ _ (by simp)).trans (new_five w _ _))⟩
  have I2 : Hid (w3.heap[w.heap.size + 1]? = some (.cells #[.int .i64 0, .int .u64 0, .slice none 0 0, .float .f64 0, .slice none 0 0] 82 (0, 0))) := Lib.hid (by
    rw [hw3]
    have h := new_five (w.alloc (.cells (bv X).toArray 27)) #[.int .i64 0, .int .u64 0, .slice none 0 0, .float .f64 0, .slice none 0 0] 82
    rw [World.size_alloc] at h
    exact (Below.heap_alloc _ _ _ (by simp)).trans h)
  have I3 : Hid (RowB w3 (w.heap.size + 1 + 1) (X.take 0 ++ zeros.drop 0)) := Lib.hid ⟨rfl, by
    rw [hw3]
    have h := new_five ((w.alloc (.cells (bv X).toArray 27)).alloc (.cells #[.int .i64 0, .int .u64 0, .slice none 0 0, .float .f64 0, .slice none 0 0] 82)) (bv zeros).toArray 5
    rw [World.size_alloc, World.size_alloc] at h
    exact h⟩
  have I4 : Hid (Below w.heap.size w w3) := Lib.hid (by rw [hw3]; exact (((Below.refl w.heap.size w).alloc (Nat.le_refl _) _).alloc (by simp) _).alloc (by simp; omega) _)
  have I5 : Hid (w.heap.size + 3 ≤ w3.heap.size) := Lib.hid (by rw [hw3]; simp)
  have HX := Lib.hid hX
  have zx : (bv X).length = n32 := by rw [bv_len, hX]; rfl
  clear hX
  go_enter Try.func44, Try.ntmps44
  go_wp2_with fail
  rw [← hw3]
  clear hw3 zx hmk
  go_loopw [4] (fun i wr => ∃ k : Nat, k ≤ 32 ∧ i = .int .i64 (k : Int) ∧ Hid (IDAt wr w.heap.size X) ∧ Hid (wr.heap[w.heap.size + 1]? = some (.cells #[.int .i64 0, .int .u64 0, .slice none 0 0, .float .f64 0, .slice none 0 0] 82 (0, 0))) ∧ Hid (RowB wr (w.heap.size + 1 + 1) (X.take k ++ zeros.drop k)) ∧ Hid (Below w.heap.size w wr) ∧ Hid (w.heap.size + 3 ≤ wr.heap.size)) (fun i _ => 32 - (intOf i).toNat)
  case atStart => exact ⟨0, Nat.zero_le _, rfl, I1, I2, I3, I4, I5⟩
  case round =>
    obtain ⟨k, hk, rfl, h1, h2, h3, h4, h5⟩ := hrel
    by_cases hlt : k < 32
    · have hc := h1.out.cell k (by rw [HX.out]; exact hlt)
      have hcx : X[k]'(by rw [HX.out]; exact hlt) = X.getD k 0 := by simp [List.getD, List.getElem?_eq_getElem (show k < X.length by rw [HX.out]; exact hlt)]
      rw [hcx] at hc
      have HN := Lib.hid (fill_next HX.out zeros_32 hlt)
      generalize X.getD k 0 = c at *
      obtain ⟨u, hu⟩ := h3.out.cell k hlt
      have hf := h3.out.free k
      have HR := Lib.hid (h3.out.set k c)
      have HB := Lib.hid (h4.out.setCell (p := ⟨w.heap.size + 1 + 1, k, none⟩) (by simp; omega) (.int .u8 (c.toNat : Int)))
      have HK1 : Hid (∀ q, q ≠ w.heap.size + 1 + 1 → (wr.setCell ⟨w.heap.size + 1 + 1, k, none⟩ (.int .u8 (c.toNat : Int))).heap[q]? = wr.heap[q]?) := Lib.hid (fun q hq => Below.heap_setCell _ _ _ _ hq)
      clear hcx
      go_wp2_with fail
      go_roundw
      case rel => exact ⟨k + 1, by omega, by go_num, Lib.hid (h1.out.kept (HK1.out _ (by omega))), Lib.hid ((HK1.out _ (by omega)).trans h2.out), Lib.hid (by rw [← HN.out]; exact HR.out), HB, Lib.hid (by have := h5.out; simpa using this)⟩
      case measure => simp [intOf]; omega
    · have hk32 : k = 32 := by omega
      subst hk32
      obtain ⟨⟨c0, c1, c2, c3, c4⟩, z0, z1, z2, z3, z4⟩ := five_cells h2.out
      have HC : Hid (BytesC (fun q => q = w.heap.size + 1 + 1) wr (.slice (some ⟨w.heap.size + 1 + 1, 0, none⟩) 32 32) X) := Lib.hid (by
        have h := h3.out
        rw [List.take_of_length_le (by rw [HX.out]; omega), List.drop_of_length_le (by rw [zeros_32]; omega), List.append_nil] at h
        exact h.bytes)
      go_wp2_with fail
      obtain ⟨r0, r1, r2, r3, r4⟩ := set5_cells c0 c1 c2 c3 c4 (.int .i64 1) (.int .u64 0) (.slice (some ⟨w.heap.size + 1 + 1, 0, none⟩) 32 32) (.float .f64 0) (.slice none 0 0)
      unfold set5 at r0 r1 r2 r3 r4
      refine bodyPost_ret (v := .agg #[.int .i64 1, .int .u64 0, .slice (some ⟨w.heap.size + 1 + 1, 0, none⟩) 32 32, .float .f64 0, .slice none 0 0]) (by simp [results, Try.results44, go_sem, r0, r1, r2, r3, r4]) rfl ⟨_, rfl, ?_, ?_⟩
      · refine HC.out.kept (w' := set5 wr (w.heap.size + 1) (.int .i64 1) (.int .u64 0) (.slice (some ⟨w.heap.size + 1 + 1, 0, none⟩) 32 32) (.float .f64 0) (.slice none 0 0)) (fun q hq => ⟨⟨by omega, ?_⟩, set5_block _ _ _ _ _ _ _ _ (by omega)⟩)
        have e := set5_size wr (w.heap.size + 1) (.int .i64 1) (.int .u64 0) (.slice (some ⟨w.heap.size + 1 + 1, 0, none⟩) 32 32) (.float .f64 0) (.slice none 0 0)
        unfold set5 at e
        have := h5.out
        omega
      · exact ((((h4.out.setCell (p := ⟨w.heap.size + 1, 0, none⟩) (Nat.le_succ _) _).setCell (p := ⟨w.heap.size + 1, 1, none⟩) (Nat.le_succ _) _).setCell (p := ⟨w.heap.size + 1, 2, none⟩) (Nat.le_succ _) _).setCell (p := ⟨w.heap.size + 1, 3, none⟩) (Nat.le_succ _) _).setCell (p := ⟨w.heap.size + 1, 4, none⟩) (Nat.le_succ _) _
set_option maxRecDepth 100000 in
set_option maxHeartbeats 4000000 in
theorem dnames_any (S : Nat → Prop) (v : Value) (I : List (List UInt8)) (w : World) (hS : ∀ k, S k → k < w.heap.size) (hv : IDsC S w v I) (hl : I.length ≤ 1048576) :
    Calls Try.prog 38 #[v] w (ValP 15 (rowV (I.map textV)) w) := by
  have hst := run_storeF
  obtain ⟨ia, ic, rfl⟩ := hv.shape
  obtain ⟨i0, hi, hz0, hz1, hz2q⟩ := info_parts Try.info82
  have HV := Lib.hid (fun (W : World) (hb : Below w.heap.size w W) => hv.kept (S' := S) (w' := W) (fun k hk => ⟨hk, hb.block k (hS k hk)⟩))
  have HSS := Lib.hid hS
  obtain ⟨m, hm⟩ : ∃ m, I.length = m := ⟨_, rfl⟩
  have HM := Lib.hid hm
  rw [hm] at hl HV ⊢
  obtain ⟨w2, hw2⟩ : ∃ w2, w2 = ((w.alloc (.cells #[.int .i64 0, .int .u64 0, .slice none 0 0, .float .f64 0, .slice none 0 0] 82)).alloc (.cells #[.int .i64 3, .int .u64 0, .slice none 0 0, .float .f64 0, .slice none 0 0] 82)) := ⟨_, rfl⟩
  have hs1 : (w.alloc (.cells #[.int .i64 0, .int .u64 0, .slice none 0 0, .float .f64 0, .slice none 0 0] 82)).heap.size = w.heap.size + 1 := by simp
  have L0 : Hid (ListAt w2 (w.heap.size + 1) (.slice none 0 0)) := Lib.hid (by rw [hw2, ← hs1]; exact ListAt.new _)
  have V0 : Hid (w2.heap[w.heap.size]? = some (.cells #[.int .i64 0, .int .u64 0, .slice none 0 0, .float .f64 0, .slice none 0 0] 82 (0, 0))) := Lib.hid (by rw [hw2]; exact (Below.heap_alloc _ _ _ (by simp)).trans (new_five w _ _))
  have B0 : Hid (Below w.heap.size w w2) := Lib.hid (by rw [hw2]; exact ((Below.refl w.heap.size w).alloc (Nat.le_refl _) _).alloc (by simp) _)
  have Z0 : Hid (w.heap.size + 2 ≤ w2.heap.size ∧ True) := Lib.hid ⟨by rw [hw2]; simp, trivial⟩
  clear hv hS hm hs1
  go_enter Try.func38, Try.ntmps38
  go_wp2_with fail
  rw [← hw2]
  clear hw2
  go_loopw [4] (fun i wr => ∃ (k : Nat) (qs : List Five) (v : Value), k ≤ m ∧ True ∧ i = .int .i64 (k : Int) ∧ Hid (qs.length = k) ∧ Hid (Rows5 (w.heap.size + 2) wr 14 v qs ((I.map textV).take k)) ∧ Hid (ListAt wr (w.heap.size + 1) v) ∧ Hid (wr.heap[w.heap.size]? = some (.cells #[.int .i64 0, .int .u64 0, .slice none 0 0, .float .f64 0, .slice none 0 0] 82 (0, 0))) ∧ Hid (Below w.heap.size w wr) ∧ Hid (w.heap.size + 2 ≤ wr.heap.size ∧ True)) (fun i _ => m - (intOf i).toNat)
  case atStart => exact ⟨0, [], _, Nat.zero_le _, trivial, rfl, Lib.hid rfl, Lib.hid (Rows5.nil _ _ _), L0, V0, B0, Z0⟩
  case round =>
    obtain ⟨k, qs, v, hk, _, rfl, hQ, hR, hLA, hV, hBW, hZW⟩ := hrel
    have HBL : Hid (w.heap.size + 2 ≤ wr.heap.size) := Lib.hid hZW.out.1
    by_cases hlt : k < m
    · have hI := HV.out wr hBW.out
      have hX := (show IDsC S wr (.slice ia I.length ic) I by rw [HM.out]; exact hI).len k (by rw [HM.out]; exact hlt)
      obtain ⟨ib, rfl, hib, hic, _⟩ := (show IDsC S wr (.slice ia I.length ic) I by rw [HM.out]; exact hI).at (by rw [HM.out]; omega)
      rw [HM.out] at hic
      have HTK : Hid ((I.map textV).take (k + 1) = (I.map textV).take k ++ [textV (I.getD k [])]) := Lib.hid (by
        have hkl : k < I.length := by rw [HM.out]; exact hlt
        rw [List.take_succ_eq_append_getElem (by simpa using hkl)]
        simp [List.getD, hkl])
      obtain ⟨X, hX0⟩ : ∃ X, I.getD k [] = X := ⟨_, rfl⟩
      rw [hX0] at hX HTK
      have HX0 := Lib.hid hX0
      have HX := Lib.hid hX
      have zx : (bv X).length = n32 := by rw [bv_len, hX]; rfl
      obtain ⟨va, vc, rfl⟩ : ∃ va vc, v = .slice va k vc := by
        have := row_shape_any hR.out.own
        rw [hQ.out] at this
        exact this
      have HVL : Hid (∀ j, (Value.slice va k vc).ownBlock = some j → w.heap.size + 2 ≤ j ∧ j < wr.heap.size) := Lib.hid (fun j hj => World.ownsRow.lt hR.out.own j hj)
      have HSD2 : Hid (∀ W : World, (∀ q, q < wr.heap.size → q < w.heap.size + 2 → W.heap[q]? = wr.heap[q]?) → W.cell? ⟨w.heap.size + 1, 4, none⟩ = some (.slice va k vc) ∧ IDsC S W (.slice (some ib) I.length ic) I) := Lib.hid (fun W hW => ⟨(hLA.out.kept (hW _ (by have := HBL.out; omega) (by omega))).c4, (show IDsC S wr (.slice (some ib) I.length ic) I by rw [HM.out]; exact hI).kept (fun q hq => ⟨hq, hW q (by have := HSS.out q hq; have := HBL.out; omega) (by have := HSS.out q hq; omega)⟩)⟩)
      have HSD : Hid (∀ W : World, (∀ q, q < w.heap.size + 2 → W.heap[q]? = wr.heap[q]?) → W.cell? ⟨w.heap.size + 1, 4, none⟩ = some (.slice va k vc) ∧ IDsC S W (.slice (some ib) I.length ic) I) := Lib.hid (fun W hW => HSD2.out W (fun q _ hq => hW q hq))
      clear hI hX hX0
      go_wp2_with fail
      refine wp_region_D 10 (fun W => W.cell? ⟨w.heap.size + 1, 4, none⟩ = some (.slice va k vc) ∧ IDsC S W (.slice (some ib) I.length ic) I) (by kernel_rfl) (by kernel_rfl) (by kernel_rfl) ?_
      have hSd := HSD.out wr.drew (fun q _ => rfl)
      refine wpAnyD_take (i := 0) (oi := ⟨_, _, _, _, _, _⟩) (v := ?_) rfl (by kernel_rfl) (by kernel_rfl) (by kernel_rfl) (by kernel_rfl) (fun _ _ _ h => h) (fun _ _ h => ⟨h.1, h.2.kept (fun _ hk => ⟨hk, rfl⟩)⟩) (Or.inl (Or.inl ⟨by rfl, ?_⟩)) hSd ?_
      rotate_left
      · intro W hSw; (try dsimp only at hSw); first | (go_simp; done) | (go_simp; with_reducible rfl)
      try simp only [Act.put, List.setIfInBounds_toArray, List.set_cons_zero, List.set_cons_succ]
      refine wpAnyD_take (i := 1) (oi := ⟨_, _, _, _, _, _⟩) (v := ?_) rfl (by kernel_rfl) (by kernel_rfl) (by kernel_rfl) (by kernel_rfl) (fun _ _ _ h => h) (fun _ _ h => ⟨h.1, h.2.kept (fun _ hk => ⟨hk, rfl⟩)⟩) (Or.inl (Or.inl ⟨by rfl, ?_⟩)) hSd ?_
      rotate_left
      · intro W hSw; (try dsimp only at hSw); first | (go_simp; done) | (go_simp; with_reducible rfl)
      try simp only [Act.put, List.setIfInBounds_toArray, List.set_cons_zero, List.set_cons_succ]
      refine wpAnyD_take (i := 2) (oi := ⟨_, _, _, _, _, _⟩) (v := ?_) rfl (by kernel_rfl) (by kernel_rfl) (by kernel_rfl) (by kernel_rfl) (fun _ _ _ h => h) (fun _ _ h => ⟨h.1, h.2.kept (fun _ hk => ⟨hk, rfl⟩)⟩) (Or.inl (Or.inl ⟨by rfl, ?_⟩)) hSd ?_
      rotate_left
      · intro W hSw; (try dsimp only at hSw); first | (go_simp; done) | (go_simp; with_reducible rfl)
      try simp only [Act.put, List.setIfInBounds_toArray, List.set_cons_zero, List.set_cons_succ]
      refine wpAnyD_take (i := 3) (oi := ⟨_, _, _, _, _, _⟩) (v := ?_) rfl (by kernel_rfl) (by kernel_rfl) (by kernel_rfl) (by kernel_rfl) (fun _ _ _ h => h) (fun _ _ h => ⟨h.1, h.2.kept (fun _ hk => ⟨hk, rfl⟩)⟩) (Or.inl (Or.inl ⟨by rfl, ?_⟩)) hSd ?_
      rotate_left
      · intro W hSw; (try dsimp only at hSw); first | (go_simp; done) | (go_simp; with_reducible rfl)
      try simp only [Act.put, List.setIfInBounds_toArray, List.set_cons_zero, List.set_cons_succ]
      refine wpAnyD_take (i := 4) (oi := ⟨_, _, _, _, _, _⟩) (v := ?_) rfl (by kernel_rfl) (by kernel_rfl) (by kernel_rfl) (by kernel_rfl) (fun _ _ _ h => h) (fun _ _ h => ⟨h.1, h.2.kept (fun _ hk => ⟨hk, rfl⟩)⟩) (Or.inl (Or.inl ⟨by rfl, ?_⟩)) hSd ?_
      rotate_left
      · intro W hSw; (try dsimp only at hSw); first | (go_simp; done) | (go_simp; with_reducible rfl)
      try simp only [Act.put, List.setIfInBounds_toArray, List.set_cons_zero, List.set_cons_succ]
      refine wpAnyD_take (i := 5) (oi := ⟨_, _, _, _, _, _⟩) (v := ?_) rfl (by kernel_rfl) (by kernel_rfl) (by kernel_rfl) (by kernel_rfl) (fun _ _ _ h => h) (fun _ _ h => ⟨h.1, h.2.kept (fun _ hk => ⟨hk, rfl⟩)⟩) (Or.inl (Or.inl ⟨by rfl, ?_⟩)) hSd ?_
      rotate_left
      · intro W hSw; (try dsimp only at hSw); have hcl := hSw.2.cells k (by rw [HM.out]; exact hlt); rw [HX0.out] at hcl; first | (go_simp; done) | (go_simp; with_reducible rfl)
      try simp only [Act.put, List.setIfInBounds_toArray, List.set_cons_zero, List.set_cons_succ]
      clear hSd
      refine wpAnyD_one (i := 6) (o := ⟨_, _, _, _, _, _⟩) (by kernel_rfl) (by decide) rfl (fun nq K hK0 => ?_)
      have hK := Lib.hid hK0
      clear hK0
      go_simp
      refine (dname_any X _ HX.out).mono ?_
      rintro e w6 ⟨vb, rfl, hbv, hb6⟩
      obtain ⟨ba, bc, rfl⟩ := hbv.shape
      have hb6' := (below_drewN wr.heap.size wr (1 + nq)).trans hb6
      have HB6 := Lib.hid hb6'
      have HBV := Lib.hid hbv
      have hz6 := hb6'.size
      have hz6' : wr.heap.size ≤ w6.heap.size := hz6
      clear hbv hb6 hb6' hz6
      try go_wp2_with fail
      refine hK.out _ _ (HSD.out w6 (fun q hq => HB6.out.block q (by have := HBL.out; omega))) ?_
      clear hK K
      try simp only [Act.put, List.setIfInBounds_toArray, List.set_cons_zero, List.set_cons_succ]
      refine wpAnyD_one (i := 7) (o := ⟨_, _, _, _, _, _⟩) (by kernel_rfl) (by decide) rfl (fun nq K hK0 => ?_)
      have hK := Lib.hid hK0
      clear hK0
      go_simp
      refine any_stepC (fun w7 hN => ?_)
      have hc7 : w7.heap.size = w6.heap.size + 1 ∧ w7.heap[w6.heap.size]? = some (.cells #[.int .i64 1, .int .u64 0, .slice ba X.length bc, .float .f64 0, .slice none 0 0] 82 (0, 0)) ∧ ∀ q, q < w6.heap.size → w7.heap[q]? = w6.heap[q]? := by rw [hN]; exact ⟨by simp, new_five _ _ _, fun q hq => Below.heap_alloc _ _ _ hq⟩
      have HP7 : Hid (w7.os = w6.os ∧ w7.tape = w6.tape ∧ w7.output = w6.output) := Lib.hid (by rw [hN]; exact ⟨rfl, rfl, rfl⟩)
      have HC7 := Lib.hid hc7
      have hz7 := hc7.1
      clear hN hc7
      refine hK.out _ _ (HSD.out w7 (fun q hq => (HC7.out.2.2 q (by have := HBL.out; omega)).trans (HB6.out.block q (by have := HBL.out; omega)))) ?_
      clear hK K
      try simp only [Act.put, List.setIfInBounds_toArray, List.set_cons_zero, List.set_cons_succ]
      refine wpAnyD_one (i := 8) (o := ⟨_, _, _, _, _, _⟩) (by kernel_rfl) (by decide) rfl (fun nq K hK0 => ?_)
      have hK := Lib.hid hK0
      clear hK0
      have OW : Hid ((w7.drewN nq).ownsRow (w.heap.size + 2) 82 5 (.slice va k vc) k (qs.flatMap Five.flat)) := Lib.hid (row_kept (w := wr) (by have := hR.out.own; rw [hQ.out] at this; exact this) (fun q hq => (HC7.out.2.2 q (by have := HVL.out q hq; omega)).trans (HB6.out.block q (by have := HVL.out q hq; omega))))
      have SRC : Hid (Src Try.prog 5 80 (.slice (some ⟨w6.heap.size, 0, none⟩) 1 1) 1 [.int .i64 1, .int .u64 (0 : Nat), .slice ba X.length bc, .float .f64 (0 : Nat), .slice none 0 0] (w7.drewN nq)) := Lib.hid (five_at (w7.drewN nq) _ _ HC7.out.2.1 (by intro u hu; simp at hu; rcases hu with rfl | rfl | rfl | rfl | rfl <;> rfl))
      refine step_own_src _ rfl _ _ 80 80 (by rfl) (w.heap.size + 2) 82 i0 _ 5 72 Try.underlying80 hi hz0 hz1 hz2q rfl (by decide) _ _ _ (by rfl) OW.out _ _ _ (by rfl) SRC.out (by unfold maxLen; omega) (by omega) (show w.heap.size + 2 ≤ w7.heap.size from by have := HBL.out; omega) ?_
      intro v' w10 hown10 hg10
      have HG10 := Lib.hid hg10
      have HO10 := Lib.hid hown10
      have hz10 : w7.heap.size ≤ w10.heap.size := hg10.gb.size
      have E10 : Hid (∀ q : Nat, q < wr.heap.size → (Value.slice va k vc).ownBlock ≠ some q → w10.heap[q]? = wr.heap[q]?) := Lib.hid (fun q hq hn => (hg10.gb.block q (by show q < w7.heap.size; omega) (fun e => hn e.symm)).trans ((HC7.out.2.2 q (by omega)).trans (HB6.out.block q (by omega))))
      clear hown10 hg10 OW SRC
      refine hK.out _ _ (HSD2.out w10 (fun q hq1 hq2 => E10.out q hq1 (fun e => by have := HVL.out q e; omega)) ) ?_
      clear hK K
      try simp only [Act.put, List.setIfInBounds_toArray, List.set_cons_zero, List.set_cons_succ]
      have hSd := HSD2.out w10 (fun q hq1 hq2 => E10.out q hq1 (fun e => by have := HVL.out q e; omega))
      refine wpAnyD_take (i := 9) (oi := ⟨_, _, _, _, _, _⟩) (v := ?_) rfl (by kernel_rfl) (by kernel_rfl) (by kernel_rfl) (by kernel_rfl) (fun _ _ _ h => h) (fun _ _ h => ⟨h.1, h.2.kept (fun _ hk => ⟨hk, rfl⟩)⟩) (Or.inl (Or.inl ⟨by rfl, ?_⟩)) hSd ?_
      rotate_left
      · intro W hSw; (try dsimp only at hSw); first | (go_simp; done) | (go_simp; with_reducible rfl)
      try simp only [Act.put, List.setIfInBounds_toArray, List.set_cons_zero, List.set_cons_succ]
      clear hSd
      refine wpAnyD_last (by kernel_rfl) (fun nd => ?_)
      refine wpOp_one rfl (by rfl) ?_
      have hvs : ∃ xa xc, v' = .slice xa (k + 1) xc := row_shape_any HO10.out
      obtain ⟨xa, xc, rfl⟩ := hvs
      have HLA : Hid (ListAt (w10.drewN nd) (w.heap.size + 1) (.slice va k vc)) := Lib.hid (hLA.out.kept (E10.out _ (by have := HBL.out; omega) (fun e => by have := HVL.out _ e; omega)))
      have hg4c := HLA.out.c4
      have hg4z := HLA.out.z4
      have HBD : Hid (Below (w.heap.size + 2) wr (w10.drewN nd)) := Lib.hid (by
  have h7 : Below wr.heap.size wr w7 := ⟨HP7.out.1.trans HB6.out.os, HP7.out.2.1.trans HB6.out.tape, HP7.out.2.2.trans HB6.out.output, by omega, fun q hq => (HC7.out.2.2 q (by omega)).trans (HB6.out.block q hq)⟩
  have h8 : Below (w.heap.size + 2) wr (w7.drewN nq) := (h7.mono (by have := HBL.out; omega)).trans (below_drewN _ _ _)
  exact (h8.grown HG10.out.gb (by show w.heap.size + 2 ≤ w7.heap.size; have := HBL.out; omega) (fun j hj => (HVL.out j hj).1)).trans (below_drewN _ _ _))
      have HRG : Hid (Rows5 (w.heap.size + 2) (w10.drewN nd) 14 (.slice xa (k + 1) xc) (qs ++ [⟨.int .i64 1, .int .u64 (0 : Nat), .slice ba X.length bc, .float .f64 (0 : Nat), .slice none 0 0⟩]) ((I.map textV).take (k + 1))) := Lib.hid (by
  rw [HTK.out]
  have h1 : ReadsS (fun j => wr.heap.size ≤ j ∧ j < w6.heap.size) w6 14 (Five.agg ⟨.int .i64 1, .int .u64 (0 : Nat), .slice ba X.length bc, .float .f64 (0 : Nat), .slice none 0 0⟩) (textV X) := text_reads 13 (HBV.out.kept (fun j hj => ⟨⟨hj.1, hj.2⟩, rfl⟩)) (by rw [HX.out]; omega)
  exact (Rows5.grow7 hR.out (by have := HBL.out; omega) hz6' HB6.out.block h1 hz7 HC7.out.2.2 HG10.out (by rw [hQ.out]; exact HO10.out)).kept0 (by rfl))
      have HXL := HX.out
      obtain ⟨xl, hxl⟩ : ∃ xl, X.length = xl := ⟨_, rfl⟩
      rw [hxl] at HRG ⊢
      clear hxl HXL
      generalize w10.drewN nd = wa at *
      have HLB := Lib.hid (HLA.out.set (.slice xa (k + 1) xc))
      have HRB := Lib.hid (HRG.out.set (b := w.heap.size + 1) (by omega) (.slice xa (k + 1) xc))
      have HBB : Hid (Below (w.heap.size + 1) wr (wa.setCell ⟨w.heap.size + 1, 4, none⟩ (.slice xa (k + 1) xc))) := Lib.hid ((HBD.out.mono (by omega)).setCell (p := ⟨w.heap.size + 1, 4, none⟩) (by simp) _)
      go_simp
      go_wp2_with fail
      go_roundw
      case rel => exact ⟨k + 1, _, _, by omega, trivial, by go_num, Lib.hid (by have := hQ.out; simp; omega), HRB, HLB, Lib.hid ((HBB.out.block w.heap.size (by omega)).trans hV.out), Lib.hid (hBW.out.trans (HBB.out.mono (by omega))), Lib.hid (by have := HBL.out; have := HBB.out.size; exact ⟨by omega, trivial⟩)⟩
      case measure => simp [intOf]; omega
    · have hkm : k = m := by omega
      have HL : Hid (ListS (fun q => w.heap.size + 2 ≤ q ∧ q < wr.heap.size) wr (ReadsS (fun q => w.heap.size + 2 ≤ q ∧ q < wr.heap.size) wr 14) v (I.map textV)) := Lib.hid (by
        have := hR.out.list
        rw [hkm, List.take_of_length_le (by rw [List.length_map, HM.out]; omega)] at this
        exact this)
      obtain ⟨ra, rc, rfl⟩ := ListS.shape HL.out
      obtain ⟨l0, l1, l2, l3, l4, _⟩ := hLA.out
      obtain ⟨⟨c0, c1, c2, c3, c4⟩, z0, z1, z2, z3, z4⟩ := five_cells hV.out
      have HML : Hid ((I.map textV).length ≤ 1048576) := Lib.hid (by rw [List.length_map, HM.out]; omega)
      obtain ⟨ml, hml⟩ : ∃ ml, (I.map textV).length = ml := ⟨_, rfl⟩
      rw [hml] at HL l4
      clear hkm hml
      go_wp2_with fail
      obtain ⟨r0, r1, r2, r3, r4⟩ := set5_cells c0 c1 c2 c3 c4 (.int .i64 3) (.int .u64 0) (.slice none 0 0) (.float .f64 0) (.slice ra ml rc)
      unfold set5 at r0 r1 r2 r3 r4
      refine bodyPost_ret (v := .agg #[.int .i64 3, .int .u64 0, .slice none 0 0, .float .f64 0, .slice ra ml rc]) (by simp [results, Try.results38, go_sem, r0, r1, r2, r3, r4]) rfl ⟨_, rfl, ?_, ?_⟩
      · refine row_reads (n := 14) ?_ HML.out
        exact HL.out.kept (w' := set5 wr w.heap.size (.int .i64 3) (.int .u64 0) (.slice none 0 0) (.float .f64 0) (.slice ra ml rc)) HML.out (fun q hq => ⟨⟨by have := hq.1; omega, by show q < (set5 wr w.heap.size _ _ _ _ _).heap.size; rw [set5_size]; exact hq.2⟩, set5_block _ _ _ _ _ _ _ _ (by have := hq.1; omega)⟩)
      · exact ((((hBW.out.setCell (p := ⟨w.heap.size, 0, none⟩) (Nat.le_refl _) _).setCell (p := ⟨w.heap.size, 1, none⟩) (Nat.le_refl _) _).setCell (p := ⟨w.heap.size, 2, none⟩) (Nat.le_refl _) _).setCell (p := ⟨w.heap.size, 3, none⟩) (Nat.le_refl _) _).setCell (p := ⟨w.heap.size, 4, none⟩) (Nat.le_refl _) _
theorem rencA_mono {w w0 : World} {r : Except Int (List UInt8)} {e : Ending} {w' : World} (hb : Below w.heap.size w w0) (h : REncAnswers w0 r e w') : REncAnswers w r e w' := by
  cases r with
  | error c => exact ⟨h.1, hb.trans (h.2.mono hb.size)⟩
  | ok o => exact ⟨h.1, hb.trans (h.2.mono hb.size)⟩
set_option maxRecDepth 100000 in
set_option maxHeartbeats 4000000 in
theorem dseal_any (S : Nat → Prop) (kind : Nat) (v : Value) (vs : List Val) (w : World) (hS : ∀ k, S k → k < w.heap.size) (hk : kind ≤ 1000) (hl : vs.length ≤ 1000) (hv : ListS S w (ReadsS S w 15) v vs) :
    Calls Try.prog 37 #[.int .i64 kind, v] w (REncAnswers w (encR (recV kind vs))) := by
  obtain ⟨i0, hi, hz0, hz1, hz2q⟩ := info_parts Try.info82
  obtain ⟨qs, hq1, hq2, hq3⟩ := hv.fives
  obtain ⟨va, vc, rfl⟩ := hv.shape
  have HQ2 := Lib.hid hq2
  have HQ3 := Lib.hid hq3
  have HS := Lib.hid hS
  have HQ1 := Lib.hid hq1
  obtain ⟨m, hm⟩ : ∃ m, vs.length = m := ⟨_, rfl⟩
  have HM := Lib.hid hm
  rw [hm] at hl HQ2 ⊢
  clear hv hq1 hq2 hq3 hS hm
  go_enter Try.func37, Try.ntmps37
  go_wp2_with fail
  refine (dnumber_any kind w (by omega)).mono ?_
  rintro e w1 ⟨rfl, hb1⟩
  have HB1 := Lib.hid hb1
  have hz1s := hb1.size
  have hsrc := ((HQ2.out.kept (S' := S) (w' := w1.alloc (.cells #[.int .i64 0, .int .u64 kind, .slice none 0 0, .float .f64 (0 : Nat), .slice none 0 0] 82)) (fun k hk => ⟨hk, (Below.heap_alloc _ _ _ (by have := HS.out k hk; omega)).trans (hb1.block k (HS.out k hk))⟩))).src (P := Try.prog) Try.underlying80
  have hown := five_own w1 ⟨.int .i64 0, .int .u64 kind, .slice none 0 0, .float .f64 (0 : Nat), .slice none 0 0⟩
  clear hb1
  go_wp2_with (at_builtin; refine wpList_own_src _ rfl _ _ 80 80 rfl w1.heap.size 82 i0 _ 5 72 Try.underlying80 hi hz0 hz1 hz2q rfl (by decide) _ _ _ rfl hown _ _ _ rfl hsrc ?c3 ?c4 ?c5 ?_)
  case c3 => unfold maxLen; omega
  case c4 => omega
  case c5 => simp
  intro v2 w2 hown2 hg2
  have HB2 : Hid (Below w.heap.size w w2) := Lib.hid ((HB1.out.alloc HB1.out.size _).grown hg2.gb (by simp; omega) (fun q hq => by have := (World.ownsRow.lt hown q hq).1; omega))
  have HLS : Hid (ListS (fun k => k < w2.heap.size) w2 (ReadsS (fun k => k < w2.heap.size) w2 15) v2 (numV kind :: vs)) := Lib.hid (by
    refine list_own (qs := ⟨.int .i64 0, .int .u64 kind, .slice none 0 0, .float .f64 (0 : Nat), .slice none 0 0⟩ :: qs) (B := w1.heap.size) ?_ ?_ (fun q hq => (World.ownsRow.lt hown2 q hq).2) ?_
    · rw [List.length_cons, HQ1.out, HM.out, Nat.add_comm, List.flatMap_cons]; exact hown2
    · simp [HQ1.out]
    · intro j q y hj hy
      cases j with
      | zero => simp at hj hy; subst hj hy; exact num_reads 14 kind (by omega)
      | succ j => exact ReadsS.kept (fun k hk => ⟨by have := HS.out k hk; have := HB2.out.size; omega, HB2.out.block k (HS.out k hk)⟩) 15 _ _ (HQ3.out j q y (by simpa using hj) (by simpa using hy)))
  obtain ⟨a2, c2, rfl⟩ := row_shape_any hown2
  have hrd := ReadsS.into (B := w2.heap.size) (fun k hk => hk) 16 _ _ (row_reads (n := 15) HLS.out (by simp; have := HM.out; omega))
  have HE := Lib.hid (rencode_any _ _ w2 hrd)
  have HRV : Hid (encR (rowV (numV kind :: vs)) = encR (recV kind vs)) := Lib.hid rfl
  rw [HRV.out] at HE
  clear hown2 hg2 hown hsrc HLS hrd
  generalize encR (recV kind vs) = r at *
  go_wp2_with fail
  refine HE.out.mono ?_
  intro e w4 h4
  have HA := Lib.hid (rencA_mono HB2.out h4)
  clear h4
  cases r with
  | error c =>
    obtain ⟨rfl, hb4⟩ := HA.out
    have HB4 := Lib.hid hb4
    clear hb4 HA
    go_wp2_with fail
    go_ret2
    exact ⟨rfl, HB4.out⟩
  | ok o =>
    obtain ⟨rfl, hb4⟩ := HA.out
    have HB4 := Lib.hid hb4
    clear hb4 HA
    go_wp2_with fail
    go_ret2
    exact ⟨rfl, HB4.out⟩
end Go.Proofs.Ytdolonkeanlaoaa
