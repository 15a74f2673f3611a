/- Entries in memory; the walk of object's readEntry. -/
import Derived.Test.YtdolonkeanlaoaaDoorObJ
namespace Go.Proofs.YtdolonkeanlaoaaDoor
open Go.RowKit

def n35 : Nat := 35
theorem n32_ne : (n32 = 0) = False := by simp [n32]
theorem n35_ne : (n35 = 0) = False := by simp [n35]
/-- An entry's cells. -/
def entF (e : EntN) (k : Nat) : Value := if k = 0 then .string ⟨e.name.toArray⟩ else if k = 1 then .bool e.folder else if k < 34 then .int .u8 ((e.id.getD (k - 2) 0).toNat : Int) else .float .f64 e.stamp
theorem ent_one (e : EntN) (n : Nat) : OneC n (entF e) := fun k _ => by
  unfold entF
  split
  · rfl
  · split
    · rfl
    · split <;> rfl
theorem ent_size (w : World) : (sizeOf 45).run Tryd.prog w = .ok n35 w := by rw [Tryd.sizeOf45]; rfl
theorem ent_zero (w : World) : (zeroValue 45).run Tryd.prog w = .ok (.agg (rowL n35 (entF noEnt)).toArray) w := by rw [Tryd.zeroValue45]; kernel_rfl
attribute [local simp high] id_size id_zero ent_size ent_zero n32_ne n35_ne
def idL (f : Nat → UInt8) : List UInt8 := (List.range 32).map f
theorem idL_of {X : List UInt8} (h : X.length = 32) : X = idL (fun k => X.getD k 0) := by
  apply List.ext_getElem?
  intro k
  unfold idL
  by_cases hk : k < 32
  · rw [List.getElem?_map, List.getElem?_range hk, List.getElem?_eq_getElem (by omega)]
    simp [List.getD, show k < X.length by omega]
  · rw [List.getElem?_eq_none (by omega), List.getElem?_eq_none (by simp; omega)]
theorem idL_len (f : Nat → UInt8) : (idL f).length = 32 := by simp [idL]
theorem ent_fill_f (p : List UInt8) (f : Nat → UInt8) : List.foldl (fun (cs : Array Value) (x : Value × Nat) => cs.setIfInBounds (2 + x.2) x.1) ((rowL n35 (entF noEnt)).set 0 (.string ⟨p.toArray⟩)).toArray (bv (idL f)).zipIdx = (rowL n35 (entF ⟨p, false, idL f, 0⟩)).toArray := by kernel_rfl
theorem ent_fill (p X : List UInt8) (hX : X.length = 32) : List.foldl (fun (cs : Array Value) (x : Value × Nat) => cs.setIfInBounds (2 + x.2) x.1) ((rowL n35 (entF noEnt)).set 0 (.string ⟨p.toArray⟩)).toArray (bv X).zipIdx = (rowL n35 (entF ⟨p, false, X, 0⟩)).toArray := by
  rw [idL_of hX]; exact ent_fill_f p _
theorem ent_ne : (rowL n35 (entF noEnt) = []) = False := by
  rw [eq_iff_iff, iff_false]
  intro h
  have := congrArg List.length h
  rw [rowL_len] at this
  exact absurd this (by decide)
theorem ent_lt : (n35 < 2 + n32) = False := by simp [n35, n32]
theorem RF.write {w : World} {b n : Nat} {t : TypeId} {F G : Nat → Value} (h : RF w b t n F) (h1 : OneC n G) : (storeCells ⟨b, 0, none⟩ (rowL n G)).run Tryd.prog w = .ok () (w.setRow b (rowL n G).toArray) := by
  have := run_storeCells_from (P := Tryd.prog) b t (rowL n G) 0 (rowL n F).toArray w h.blk (by rw [rowL_len, List.size_toArray, rowL_len]; omega) (rowL_one h1)
  simpa using this
theorem RF.put {w : World} {b n : Nat} {t : TypeId} {F : Nat → Value} (h : RF w b t n F) (G : Nat → Value) : RF (w.setRow b (rowL n G).toArray) b t n G := ⟨setRow_heap w b _ _ _ _ h.blk⟩
/-- Cells loaded from anywhere. -/
theorem load_row (w : World) (b o n : Nat) (F : Nat → Value) (h : ∀ j, j < n → w.cell? ⟨b, o + j, none⟩ = some (F j)) : (loadCellsFrom ⟨b, o, none⟩ 0 n #[]).run Tryd.prog w = .ok (rowL n F).toArray w := by
  have := run_loadCells_list (P := Tryd.prog) w ⟨b, o, none⟩ (rowL n F) (fun j v hv => by
    have hj : j < n := by
      have := (List.getElem?_eq_some_iff.1 hv).1
      rw [rowL_len] at this; exact this
    rw [rowL_at _ hj] at hv
    rw [Addr.add_mid, ← hv]
    exact h j hj)
  rw [rowL_len] at this
  simpa [loadCells] using this
theorem ent_folder (p X : List UInt8) (s j : Nat) : (if j = 1 then Value.bool true else entF ⟨p, false, X, s⟩ j) = entF ⟨p, true, X, s⟩ j := by
  unfold entF
  by_cases h0 : j = 0
  · subst h0; rfl
  · by_cases h1 : j = 1
    · subst h1; rfl
    · simp [h0, h1]
theorem ent_stamp (p X : List UInt8) (f : Bool) (s s' j : Nat) (hj : j < 35) : (if j = 34 then Value.float .f64 s' else entF ⟨p, f, X, s⟩ j) = entF ⟨p, f, X, s'⟩ j := by
  unfold entF
  by_cases h : j = 34
  · subst h; rfl
  · rw [if_neg h]
    split
    · rfl
    · split
      · rfl
      · rw [if_pos (by omega), if_pos (by omega)]
theorem RF.cells {w : World} {b n : Nat} {t : TypeId} {F : Nat → Value} (h : RF w b t n F) : (loadCellsFrom ⟨b, 0, none⟩ 0 n #[]).run Tryd.prog w = .ok (rowL n F).toArray w :=
  load_row w b 0 n F (fun j hj => by rw [Nat.zero_add]; exact h.cell hj)
theorem RF.var {w : World} {b n : Nat} {t u : TypeId} {F : Nat → Value} (h : RF w b t n F) (ha : (isAgg u).run Tryd.prog w = .ok true w) (hs : (sizeOf u).run Tryd.prog w = .ok n w) : (loadVar u ⟨b, 0, none⟩).run Tryd.prog w = .ok (.agg (rowL n F).toArray) w := by
  unfold loadVar
  simp only [Sem.run_bind, ha, hs, Result.andThen, if_true, loadCells]
  rw [h.cells]
  rfl
theorem ent_agg (w : World) : (isAgg 45).run Tryd.prog w = .ok true w := by rw [Tryd.isAgg45]
theorem ListS.el2 {S : Nat → Prop} {w : World} {n : Nat} {a : Option Addr} {m c : Nat} {l : List Val} {j : Nat} (h : ListS S w (ReadsS S w (n + 1)) (.slice a m c) l) (hm : l.length = m) (hj : j < m) :
    ∃ g o a1 c1 a2 c2, a = some ⟨g, o, none⟩ ∧ S g ∧ m ≤ c ∧ c ≤ maxLen ∧ (w.cell? ⟨g, o + j * 5, none⟩ = some (.int .i64 (at0 l j).kind) ∧ w.cell? ⟨g, o + j * 5 + 1, none⟩ = some (.int .u64 (at0 l j).num) ∧ w.cell? ⟨g, o + j * 5 + 2, none⟩ = some (.slice a1 (at0 l j).bytes.length c1) ∧
      w.cell? ⟨g, o + j * 5 + 3, none⟩ = some (.float .f64 (at0 l j).real) ∧ w.cell? ⟨g, o + j * 5 + 4, none⟩ = some (.slice a2 (at0 l j).list.length c2)) ∧
      ReadsS S w (n + 1) (.agg #[.int .i64 (at0 l j).kind, .int .u64 (at0 l j).num, .slice a1 (at0 l j).bytes.length c1, .float .f64 (at0 l j).real, .slice a2 (at0 l j).list.length c2]) (at0 l j) := by
  subst hm
  have hx : l[j]? = some (at0 l j) := by unfold at0; rw [List.getElem?_eq_getElem hj]; simp [List.getD, hj]
  exact ListS.el h hx
set_option maxRecDepth 100000 in
set_option maxHeartbeats 8000000 in
theorem rentry_any (S : Nat → Prop) (n : Nat) (v : Value) (x : Val) (w : World) (hS : ∀ k, S k → k < w.heap.size) (hx : ReadsS S w (n + 2) v x) :
    Calls Tryd.prog 70 #[v] w (GivesR (fun _ v e => v = .agg (rowL n35 (entF e)).toArray ∧ e.id.length = 32 ∧ e.stamp < 18446744073709551616) w (entryR x)) := by
  have hst := run_storeF
  obtain ⟨a1, c1, a2, c2, rfl, h2, h3, h4, h5, h6, h7⟩ := hx.parts
  obtain ⟨w0, hw0⟩ : ∃ w0, w0 = (w.alloc (.cells #[.int .i64 x.kind, .int .u64 x.num, .slice a1 x.bytes.length c1, .float .f64 x.real, .slice a2 x.list.length c2] 53)).alloc (.cells (rowL n35 (entF noEnt)).toArray 45) := ⟨_, rfl⟩
  have hb0 : Below w.heap.size w w0 := by rw [hw0]; exact ((Below.refl w.heap.size w).alloc (Nat.le_refl _) _).alloc (by simp) _
  have hz0 : w0.heap.size = w.heap.size + 2 := by rw [hw0]; simp
  have hx0 : ReadsS S w0 (n + 2) (.agg #[.int .i64 x.kind, .int .u64 x.num, .slice a1 x.bytes.length c1, .float .f64 x.real, .slice a2 x.list.length c2]) x := ReadsS.kept (fun k hk => ⟨hk, hb0.block k (hS k hk)⟩) (n + 2) _ _ hx
  have HL := Lib.hid (rlist_any S (n + 1) 3 _ x w0 (fun k hk => by have := hS k hk; omega) hx0)
  have HR0 : Hid (RF w0 (w.heap.size + 1) 45 n35 (entF noEnt)) := Lib.hid ⟨by rw [hw0]; have := new_five (w.alloc (.cells #[.int .i64 x.kind, .int .u64 x.num, .slice a1 x.bytes.length c1, .float .f64 x.real, .slice a2 x.list.length c2] 53)) (rowL n35 (entF noEnt)).toArray 45; simpa using this⟩
  have HS := Lib.hid hS
  have HB0 := Lib.hid hb0
  have HZ0 := Lib.hid hz0
  rw [hw0] at HL
  have HW0 := Lib.hid hw0
  have hol := rowL_len n35 (entF noEnt)
  clear h6 h7 hx hx0 hS hb0 hz0
  unfold entryR
  cases hl : listR 3 x with
  | error c =>
    rw [hl] at HL
    rw [andR_bad rfl]
    clear hl hw0
    go_enter Tryd.func70, Tryd.ntmps70
    go_wp2_with fail
    refine HL.out.mono ?_
    rintro e w1 ⟨rfl, hb1⟩
    rw [← HW0.out] at hb1
    have HB := Lib.hid (HB0.out.trans (hb1.mono (by rw [HZ0.out]; omega)))
    clear hb1
    go_wp2
    exact ⟨rfl, rfl, HB.out⟩
  | ok L =>
    rw [hl] at HL
    rw [andR_of rfl]
    obtain ⟨hkk, hll, hlm⟩ := listR_ok hl
    have HLL : Hid (L.length ≤ 1048576) := Lib.hid (by rw [← hll]; exact h5)
    obtain ⟨m, hm⟩ : ∃ m, L.length = m := ⟨_, rfl⟩
    rw [hm] at hlm
    have HM := Lib.hid hm
    clear hl hll hkk hw0 hm
    go_enter Tryd.func70, Tryd.ntmps70
    go_wp2_with fail
    refine HL.out.mono ?_
    rintro e w1 ⟨vl, rfl, hL1, hb1⟩
    rw [← HW0.out] at hb1
    have HL1 := Lib.hid hL1
    obtain ⟨la, lc, rfl⟩ := hL1.shape
    rw [HM.out] at HL1 ⊢
    have HB1 := Lib.hid (HB0.out.trans (hb1.mono (by rw [HZ0.out]; omega)))
    have HZ1 : Hid (w.heap.size + 2 ≤ w1.heap.size) := Lib.hid (by have := hb1.size; rw [HZ0.out] at this; exact this)
    have HR1 := Lib.hid (HR0.out.kept (hb1.block _ (by rw [HZ0.out]; omega)))
    clear hL1 hb1 HL HR0 HW0
    by_cases hm2 : m < 2
    · have HE : Hid (entryL L = .error 91) := Lib.hid (by unfold entryL; rw [if_pos (by rw [HM.out]; exact hm2)])
      go_wp2_with fail
      refine ⟨rfl, ?_⟩
      rw [HE.out]
      exact ⟨rfl, HB1.out⟩

    obtain ⟨g, o, p1, pc1, p2, pc2, rfl, hg, hlc, hcm, ⟨e0, e1, e2, e3, e4⟩, hx⟩ := HL1.out.el2 HM.out (j := 0) (by omega)
    obtain ⟨g', o', q1, qc1, q2, qc2, heq, _, _, _, ⟨f0, f1, f2, f3, f4⟩, hx'⟩ := HL1.out.el2 HM.out (j := 1) (by omega)
    injection heq with heq
    injection heq with heq1 heq2
    subst heq1 heq2
    simp only [Nat.zero_mul, Nat.add_zero, Nat.one_mul] at e0 e1 e2 e3 e4 f0 f1 f2 f3 f4
    have hS1 : ∀ k, S k → k < w1.heap.size := fun k hk => by have := HS.out k hk; have := HZ1.out; omega
    have HT : Hid (∀ W : World, Below w1.heap.size w1 W → Calls Tryd.prog 47 #[.agg #[.int .i64 (at0 L 0).kind, .int .u64 (at0 L 0).num, .slice p1 (at0 L 0).bytes.length pc1, .float .f64 (at0 L 0).real, .slice p2 (at0 L 0).list.length pc2], .int .i64 64] W (GivesR (fun w' v b => v = .slice p1 (at0 L 0).bytes.length pc1 ∧ BytesC S w' v b) W (textR 64 (at0 L 0)))) :=
      Lib.hid (fun W hW => rtext_at S n 64 (at0 L 0) p1 p2 pc1 pc2 W (fun k hk => Nat.lt_of_lt_of_le (hS1 k hk) hW.size) (ReadsS.kept (fun k hk => ⟨hk, hW.block k (hS1 k hk)⟩) (n + 1) _ _ hx))
    have HI : Hid (∀ W : World, Below w1.heap.size w1 W → Calls Tryd.prog 57 #[.agg #[.int .i64 (at0 L 1).kind, .int .u64 (at0 L 1).num, .slice q1 (at0 L 1).bytes.length qc1, .float .f64 (at0 L 1).real, .slice q2 (at0 L 1).list.length qc2]] W (GivesR (fun _ v X => v = .agg (bv X).toArray ∧ X.length = 32) W (nameR (at0 L 1)))) :=
      Lib.hid (fun W hW => rname_id_any S n _ _ W (fun k hk => Nat.lt_of_lt_of_le (hS1 k hk) hW.size) (ReadsS.kept (fun k hk => ⟨hk, hW.block k (hS1 k hk)⟩) (n + 1) _ _ hx'))
    have hbc : BytesC S w1 (.slice p1 (at0 L 0).bytes.length pc1) (at0 L 0).bytes := by
      obtain ⟨b1, d1, b2, d2, he, _, _, _, _, h6, _⟩ := hx.parts
      injection he with he
      have hsh2 : [Value.int .i64 (at0 L 0).kind, .int .u64 (at0 L 0).num, .slice p1 (at0 L 0).bytes.length pc1, .float .f64 (at0 L 0).real, .slice p2 (at0 L 0).list.length pc2] = [.int .i64 (at0 L 0).kind, .int .u64 (at0 L 0).num, .slice b1 (at0 L 0).bytes.length d1, .float .f64 (at0 L 0).real, .slice b2 (at0 L 0).list.length d2] := by injection he
      injection hsh2 with s0 hsh2
      injection hsh2 with s1 hsh2
      injection hsh2 with s2 hsh2
      rw [s2]; exact h6
    have hgw := HS.out g hg
    have HK : Hid (∀ W : World, (∀ k, k < w.heap.size → W.heap[k]? = w1.heap[k]?) → (W.cell? ⟨g, o, none⟩ = some (.int .i64 (at0 L 0).kind) ∧ W.cell? ⟨g, o + 1, none⟩ = some (.int .u64 (at0 L 0).num) ∧ W.cell? ⟨g, o + 2, none⟩ = some (.slice p1 (at0 L 0).bytes.length pc1) ∧ W.cell? ⟨g, o + 3, none⟩ = some (.float .f64 (at0 L 0).real) ∧ W.cell? ⟨g, o + 4, none⟩ = some (.slice p2 (at0 L 0).list.length pc2)) ∧ (W.cell? ⟨g, o + 5, none⟩ = some (.int .i64 (at0 L 1).kind) ∧ W.cell? ⟨g, o + 5 + 1, none⟩ = some (.int .u64 (at0 L 1).num) ∧ W.cell? ⟨g, o + 5 + 2, none⟩ = some (.slice q1 (at0 L 1).bytes.length qc1) ∧ W.cell? ⟨g, o + 5 + 3, none⟩ = some (.float .f64 (at0 L 1).real) ∧ W.cell? ⟨g, o + 5 + 4, none⟩ = some (.slice q2 (at0 L 1).list.length qc2)) ∧ (convert 22 9 (.slice p1 (at0 L 0).bytes.length pc1)).run Tryd.prog W = .ok (.string ⟨(at0 L 0).bytes.toArray⟩) W) := Lib.hid (fun W hW => by
      have hq : ∀ j, W.cell? ⟨g, j, none⟩ = w1.cell? ⟨g, j, none⟩ := fun j => World.cell?_of_block (w := w1) (hW g hgw)
      simp only [hq]
      exact ⟨⟨e0, e1, e2, e3, e4⟩, ⟨f0, f1, f2, f3, f4⟩, bytes_str (hbc.kept (S' := S) (fun k hk => ⟨hk, hW k (HS.out k hk)⟩))⟩)
    have HBc : Hid (Below w1.heap.size w1 w1.drew) := Lib.hid (drewn _ w1 1)
    have HE : Hid (entryL L = andR (textR 64 (at0 L 0)) fun nm => andR (nameR (at0 L 1)) fun i => if m = 2 then .ok ⟨nm, true, i, 0⟩ else andR (stampR (at0 L 2)) fun s => .ok ⟨nm, false, i, s⟩) := Lib.hid (by unfold entryL; rw [if_neg (by rw [HM.out]; exact hm2), HM.out])
    have HTB : Hid (∀ b, textR 64 (at0 L 0) = .ok b → (at0 L 0).bytes = b) := Lib.hid (fun b h => (textR_ok h).2.1)
    clear e0 e1 e2 e3 e4 f0 f1 f2 f3 f4 hx hx' hbc hcm hg hS1
    generalize textR 64 (at0 L 0) = rt at *
    generalize nameR (at0 L 1) = ri at *
    have hm0 : 0 < m := by omega
    have hm1 : 1 < m := by omega
    have hm1i : (1 : Int) < (m : Int) := by omega
    go_wp2_with fail
    rename Exit → Act → World → Prop => QP
    subst QP
    cases rt with
    | error c =>
      refine wp_region_held_drew (S := (fun W => (W.cell? ⟨g, o, none⟩ = some (.int .i64 (at0 L 0).kind) ∧ W.cell? ⟨g, o + 1, none⟩ = some (.int .u64 (at0 L 0).num) ∧ W.cell? ⟨g, o + 2, none⟩ = some (.slice p1 (at0 L 0).bytes.length pc1) ∧ W.cell? ⟨g, o + 3, none⟩ = some (.float .f64 (at0 L 0).real) ∧ W.cell? ⟨g, o + 4, none⟩ = some (.slice p2 (at0 L 0).list.length pc2)) ∧ (W.cell? ⟨g, o + 5, none⟩ = some (.int .i64 (at0 L 1).kind) ∧ W.cell? ⟨g, o + 5 + 1, none⟩ = some (.int .u64 (at0 L 1).num) ∧ W.cell? ⟨g, o + 5 + 2, none⟩ = some (.slice q1 (at0 L 1).bytes.length qc1) ∧ W.cell? ⟨g, o + 5 + 3, none⟩ = some (.float .f64 (at0 L 1).real) ∧ W.cell? ⟨g, o + 5 + 4, none⟩ = some (.slice q2 (at0 L 1).list.length qc2)) ∧ (convert 22 9 (.slice p1 (at0 L 0).bytes.length pc1)).run Tryd.prog W = .ok (.string ⟨(at0 L 0).bytes.toArray⟩) W)) (by kernel_rfl) (by exact HK.out _ (fun _ _ => rfl)) (fun hHeld => ?_)
      refine wpAnyH_take (i := 0) (oi := ⟨_, _, _, _, _, _⟩) (v := ?_) rfl (by kernel_rfl) (by kernel_rfl) (by kernel_rfl) (fun _ _ _ h => h) (Or.inl ⟨by rfl, ?_⟩) (by assumption) ?_
      rotate_left
      · intro w hSw; (try dsimp only at hSw); first | (go_simp; done) | (go_simp; with_reducible rfl)
      try simp only [Act.put, List.setIfInBounds_toArray, List.set_cons_zero, List.set_cons_succ]
      refine wpAnyH_take (i := 1) (oi := ⟨_, _, _, _, _, _⟩) (v := ?_) rfl (by kernel_rfl) (by kernel_rfl) (by kernel_rfl) (fun _ _ _ h => h) (Or.inl ⟨by rfl, ?_⟩) (by assumption) ?_
      rotate_left
      · intro w hSw; (try dsimp only at hSw); first | (go_simp; done) | (go_simp; with_reducible rfl)
      try simp only [Act.put, List.setIfInBounds_toArray, List.set_cons_zero, List.set_cons_succ]
      refine wpAnyH_take (i := 2) (oi := ⟨_, _, _, _, _, _⟩) (v := ?_) rfl (by kernel_rfl) (by kernel_rfl) (by kernel_rfl) (fun _ _ _ h => h) (Or.inl ⟨by rfl, ?_⟩) (by assumption) ?_
      rotate_left
      · intro w hSw; (try dsimp only at hSw); first | (go_simp; done) | (go_simp; with_reducible rfl)
      try simp only [Act.put, List.setIfInBounds_toArray, List.set_cons_zero, List.set_cons_succ]
      refine wpAnyH_take (i := 5) (oi := ⟨_, _, _, _, _, _⟩) (v := ?_) rfl (by kernel_rfl) (by kernel_rfl) (by kernel_rfl) (fun _ _ _ h => h) (Or.inl ⟨by rfl, ?_⟩) (by assumption) ?_
      rotate_left
      · intro w hSw; (try dsimp only at hSw); first | (go_simp; done) | (go_simp; with_reducible rfl)
      try simp only [Act.put, List.setIfInBounds_toArray, List.set_cons_zero, List.set_cons_succ]
      refine wpAnyH_take (i := 6) (oi := ⟨_, _, _, _, _, _⟩) (v := ?_) rfl (by kernel_rfl) (by kernel_rfl) (by kernel_rfl) (fun _ _ _ h => h) (Or.inl ⟨by rfl, ?_⟩) (by assumption) ?_
      rotate_left
      · intro w hSw; (try dsimp only at hSw); first | (go_simp; done) | (go_simp; with_reducible rfl)
      try simp only [Act.put, List.setIfInBounds_toArray, List.set_cons_zero, List.set_cons_succ]
      refine wpAnyH_take (i := 7) (oi := ⟨_, _, _, _, _, _⟩) (v := ?_) rfl (by kernel_rfl) (by kernel_rfl) (by kernel_rfl) (fun _ _ _ h => h) (Or.inl ⟨by rfl, ?_⟩) (by assumption) ?_
      rotate_left
      · intro w hSw; (try dsimp only at hSw); first | (go_simp; done) | (go_simp; with_reducible rfl)
      try simp only [Act.put, List.setIfInBounds_toArray, List.set_cons_zero, List.set_cons_succ]
      refine wpAnyH_ready (rs := [3, 10]) (by kernel_rfl) (by simp) ?_
      refine AllReadyH.cons (o := ⟨_, _, _, _, _, _⟩) rfl (fun K hK => ?_) (AllReadyH.cons (o := ⟨_, _, _, _, _, _⟩) rfl (fun K hK => ?_) AllReadyH.nil)
      · go_simp
        refine (HT.out _ HBc.out).mono ?_
        rintro e w9 ⟨rfl, hb9⟩
        refine ⟨rfl, ?_⟩
        rw [HE.out]
        exact ⟨rfl, HB1.out.trans ((HBc.out.trans (hb9.mono HBc.out.size)).mono HB1.out.size)⟩
      · go_simp
        refine any_stepC (fun wa hN => ?_)
        have HA : Hid (RF wa w1.heap.size 45 n35 (entF noEnt)) := Lib.hid (by rw [hN]; first | exact RF.new _ _ _ _ | exact (RF.new _ _ _ _).kept rfl)
        have HZQ : Hid (w1.heap.size ≤ w1.heap.size) := Lib.hid HBc.out.size
        have HBc : Hid (Below w1.heap.size w1 wa) := Lib.hid (by rw [hN]; first | exact HBc.out.alloc HBc.out.size _ | exact (HBc.out.alloc HBc.out.size _).drew)
        clear hN
        try go_wp2_with fail
        refine hK.out _ _ (by exact HK.out _ (fun k hk => HBc.out.block k (by have := HZ1.out; omega))) (fun hHeld => ?_)
        clear hK K
        try simp only [Act.put, List.setIfInBounds_toArray, List.set_cons_zero, List.set_cons_succ]
        refine wpAnyH_ready (rs := [3]) (by kernel_rfl) (by simp) ?_
        refine AllReadyH.cons (o := ⟨_, _, _, _, _, _⟩) rfl (fun K hK => ?_) AllReadyH.nil
        go_simp
        refine (HT.out _ HBc.out).mono ?_
        rintro e w9 ⟨rfl, hb9⟩
        refine ⟨rfl, ?_⟩
        rw [HE.out]
        exact ⟨rfl, HB1.out.trans ((HBc.out.trans (hb9.mono HBc.out.size)).mono HB1.out.size)⟩
    | ok b =>
      cases ri with
      | error c =>
        refine wp_region_held_drew (S := (fun W => (W.cell? ⟨g, o, none⟩ = some (.int .i64 (at0 L 0).kind) ∧ W.cell? ⟨g, o + 1, none⟩ = some (.int .u64 (at0 L 0).num) ∧ W.cell? ⟨g, o + 2, none⟩ = some (.slice p1 (at0 L 0).bytes.length pc1) ∧ W.cell? ⟨g, o + 3, none⟩ = some (.float .f64 (at0 L 0).real) ∧ W.cell? ⟨g, o + 4, none⟩ = some (.slice p2 (at0 L 0).list.length pc2)) ∧ (W.cell? ⟨g, o + 5, none⟩ = some (.int .i64 (at0 L 1).kind) ∧ W.cell? ⟨g, o + 5 + 1, none⟩ = some (.int .u64 (at0 L 1).num) ∧ W.cell? ⟨g, o + 5 + 2, none⟩ = some (.slice q1 (at0 L 1).bytes.length qc1) ∧ W.cell? ⟨g, o + 5 + 3, none⟩ = some (.float .f64 (at0 L 1).real) ∧ W.cell? ⟨g, o + 5 + 4, none⟩ = some (.slice q2 (at0 L 1).list.length qc2)) ∧ (convert 22 9 (.slice p1 (at0 L 0).bytes.length pc1)).run Tryd.prog W = .ok (.string ⟨(at0 L 0).bytes.toArray⟩) W)) (by kernel_rfl) (by exact HK.out _ (fun _ _ => rfl)) (fun hHeld => ?_)
        refine wpAnyH_take (i := 0) (oi := ⟨_, _, _, _, _, _⟩) (v := ?_) rfl (by kernel_rfl) (by kernel_rfl) (by kernel_rfl) (fun _ _ _ h => h) (Or.inl ⟨by rfl, ?_⟩) (by assumption) ?_
        rotate_left
        · intro w hSw; (try dsimp only at hSw); first | (go_simp; done) | (go_simp; with_reducible rfl)
        try simp only [Act.put, List.setIfInBounds_toArray, List.set_cons_zero, List.set_cons_succ]
        refine wpAnyH_take (i := 1) (oi := ⟨_, _, _, _, _, _⟩) (v := ?_) rfl (by kernel_rfl) (by kernel_rfl) (by kernel_rfl) (fun _ _ _ h => h) (Or.inl ⟨by rfl, ?_⟩) (by assumption) ?_
        rotate_left
        · intro w hSw; (try dsimp only at hSw); first | (go_simp; done) | (go_simp; with_reducible rfl)
        try simp only [Act.put, List.setIfInBounds_toArray, List.set_cons_zero, List.set_cons_succ]
        refine wpAnyH_take (i := 2) (oi := ⟨_, _, _, _, _, _⟩) (v := ?_) rfl (by kernel_rfl) (by kernel_rfl) (by kernel_rfl) (fun _ _ _ h => h) (Or.inl ⟨by rfl, ?_⟩) (by assumption) ?_
        rotate_left
        · intro w hSw; (try dsimp only at hSw); first | (go_simp; done) | (go_simp; with_reducible rfl)
        try simp only [Act.put, List.setIfInBounds_toArray, List.set_cons_zero, List.set_cons_succ]
        refine wpAnyH_take (i := 5) (oi := ⟨_, _, _, _, _, _⟩) (v := ?_) rfl (by kernel_rfl) (by kernel_rfl) (by kernel_rfl) (fun _ _ _ h => h) (Or.inl ⟨by rfl, ?_⟩) (by assumption) ?_
        rotate_left
        · intro w hSw; (try dsimp only at hSw); first | (go_simp; done) | (go_simp; with_reducible rfl)
        try simp only [Act.put, List.setIfInBounds_toArray, List.set_cons_zero, List.set_cons_succ]
        refine wpAnyH_take (i := 6) (oi := ⟨_, _, _, _, _, _⟩) (v := ?_) rfl (by kernel_rfl) (by kernel_rfl) (by kernel_rfl) (fun _ _ _ h => h) (Or.inl ⟨by rfl, ?_⟩) (by assumption) ?_
        rotate_left
        · intro w hSw; (try dsimp only at hSw); first | (go_simp; done) | (go_simp; with_reducible rfl)
        try simp only [Act.put, List.setIfInBounds_toArray, List.set_cons_zero, List.set_cons_succ]
        refine wpAnyH_take (i := 7) (oi := ⟨_, _, _, _, _, _⟩) (v := ?_) rfl (by kernel_rfl) (by kernel_rfl) (by kernel_rfl) (fun _ _ _ h => h) (Or.inl ⟨by rfl, ?_⟩) (by assumption) ?_
        rotate_left
        · intro w hSw; (try dsimp only at hSw); first | (go_simp; done) | (go_simp; with_reducible rfl)
        try simp only [Act.put, List.setIfInBounds_toArray, List.set_cons_zero, List.set_cons_succ]
        refine wpAnyH_ready (rs := [3, 10]) (by kernel_rfl) (by simp) ?_
        refine AllReadyH.cons (o := ⟨_, _, _, _, _, _⟩) rfl (fun K hK => ?_) (AllReadyH.cons (o := ⟨_, _, _, _, _, _⟩) rfl (fun K hK => ?_) AllReadyH.nil)
        · go_simp
          refine (HT.out _ HBc.out).mono ?_
          rintro e w2 ⟨vv, rfl, ⟨rfl, _⟩, hb2⟩
          have HBc : Hid (Below w1.heap.size w1 w2) := Lib.hid (HBc.out.trans (hb2.mono HBc.out.size))
          clear hb2
          try go_wp2_with fail
          refine hK.out _ _ (by exact HK.out _ (fun k hk => HBc.out.block k (by have := HZ1.out; omega))) (fun hHeld => ?_)
          clear hK K
          try simp only [Act.put, List.setIfInBounds_toArray, List.set_cons_zero, List.set_cons_succ]
          refine wpAnyH_take (i := 4) (oi := ⟨_, _, _, _, _, _⟩) (v := ?_) rfl (by kernel_rfl) (by kernel_rfl) (by kernel_rfl) (fun _ _ _ h => h) (Or.inl ⟨by rfl, ?_⟩) (by assumption) ?_
          rotate_left
          · intro w hSw; (try dsimp only at hSw); first | (go_simp; done) | (go_simp; with_reducible rfl)
          try simp only [Act.put, List.setIfInBounds_toArray, List.set_cons_zero, List.set_cons_succ]
          refine wpAnyH_ready (rs := [8, 10]) (by kernel_rfl) (by simp) ?_
          refine AllReadyH.cons (o := ⟨_, _, _, _, _, _⟩) rfl (fun K hK => ?_) (AllReadyH.cons (o := ⟨_, _, _, _, _, _⟩) rfl (fun K hK => ?_) AllReadyH.nil)
          · go_simp
            refine (HI.out _ HBc.out).mono ?_
            rintro e w9 ⟨rfl, hb9⟩
            refine ⟨rfl, ?_⟩
            rw [HE.out]
            exact ⟨rfl, HB1.out.trans ((HBc.out.trans (hb9.mono HBc.out.size)).mono HB1.out.size)⟩
          · go_simp
            refine any_stepC (fun wa hN => ?_)
            have HA : Hid (RF wa w2.heap.size 45 n35 (entF noEnt)) := Lib.hid (by rw [hN]; first | exact RF.new _ _ _ _ | exact (RF.new _ _ _ _).kept rfl)
            have HZQ : Hid (w1.heap.size ≤ w2.heap.size) := Lib.hid HBc.out.size
            have HBc : Hid (Below w1.heap.size w1 wa) := Lib.hid (by rw [hN]; first | exact HBc.out.alloc HBc.out.size _ | exact (HBc.out.alloc HBc.out.size _).drew)
            clear hN
            try go_wp2_with fail
            refine hK.out _ _ (by exact HK.out _ (fun k hk => HBc.out.block k (by have := HZ1.out; omega))) (fun hHeld => ?_)
            clear hK K
            try simp only [Act.put, List.setIfInBounds_toArray, List.set_cons_zero, List.set_cons_succ]
            refine wpAnyH_ready (rs := [8]) (by kernel_rfl) (by simp) ?_
            refine AllReadyH.cons (o := ⟨_, _, _, _, _, _⟩) rfl (fun K hK => ?_) AllReadyH.nil
            go_simp
            refine (HI.out _ HBc.out).mono ?_
            rintro e w9 ⟨rfl, hb9⟩
            refine ⟨rfl, ?_⟩
            rw [HE.out]
            exact ⟨rfl, HB1.out.trans ((HBc.out.trans (hb9.mono HBc.out.size)).mono HB1.out.size)⟩
        · go_simp
          refine any_stepC (fun wa hN => ?_)
          have HA : Hid (RF wa w1.heap.size 45 n35 (entF noEnt)) := Lib.hid (by rw [hN]; first | exact RF.new _ _ _ _ | exact (RF.new _ _ _ _).kept rfl)
          have HZQ : Hid (w1.heap.size ≤ w1.heap.size) := Lib.hid HBc.out.size
          have HBc : Hid (Below w1.heap.size w1 wa) := Lib.hid (by rw [hN]; first | exact HBc.out.alloc HBc.out.size _ | exact (HBc.out.alloc HBc.out.size _).drew)
          clear hN
          try go_wp2_with fail
          refine hK.out _ _ (by exact HK.out _ (fun k hk => HBc.out.block k (by have := HZ1.out; omega))) (fun hHeld => ?_)
          clear hK K
          try simp only [Act.put, List.setIfInBounds_toArray, List.set_cons_zero, List.set_cons_succ]
          refine wpAnyH_ready (rs := [3]) (by kernel_rfl) (by simp) ?_
          refine AllReadyH.cons (o := ⟨_, _, _, _, _, _⟩) rfl (fun K hK => ?_) AllReadyH.nil
          go_simp
          refine (HT.out _ HBc.out).mono ?_
          rintro e w2 ⟨vv, rfl, ⟨rfl, _⟩, hb2⟩
          have HBc : Hid (Below w1.heap.size w1 w2) := Lib.hid (HBc.out.trans (hb2.mono HBc.out.size))
          have HA := Lib.hid (HA.out.kept (hb2.block _ HA.out.lt))
          clear hb2
          try go_wp2_with fail
          refine hK.out _ _ (by exact HK.out _ (fun k hk => HBc.out.block k (by have := HZ1.out; omega))) (fun hHeld => ?_)
          clear hK K
          try simp only [Act.put, List.setIfInBounds_toArray, List.set_cons_zero, List.set_cons_succ]
          refine wpAnyH_take (i := 4) (oi := ⟨_, _, _, _, _, _⟩) (v := ?_) rfl (by kernel_rfl) (by kernel_rfl) (by kernel_rfl) (fun _ _ _ h => h) (Or.inl ⟨by rfl, ?_⟩) (by assumption) ?_
          rotate_left
          · intro w hSw; (try dsimp only at hSw); first | (go_simp; done) | (go_simp; with_reducible rfl)
          try simp only [Act.put, List.setIfInBounds_toArray, List.set_cons_zero, List.set_cons_succ]
          refine wpAnyH_ready (rs := [8]) (by kernel_rfl) (by simp) ?_
          refine AllReadyH.cons (o := ⟨_, _, _, _, _, _⟩) rfl (fun K hK => ?_) AllReadyH.nil
          go_simp
          refine (HI.out _ HBc.out).mono ?_
          rintro e w9 ⟨rfl, hb9⟩
          refine ⟨rfl, ?_⟩
          rw [HE.out]
          exact ⟨rfl, HB1.out.trans ((HBc.out.trans (hb9.mono HBc.out.size)).mono HB1.out.size)⟩
      | ok X =>
        refine wp_region_held_drew (S := (fun W => (W.cell? ⟨g, o, none⟩ = some (.int .i64 (at0 L 0).kind) ∧ W.cell? ⟨g, o + 1, none⟩ = some (.int .u64 (at0 L 0).num) ∧ W.cell? ⟨g, o + 2, none⟩ = some (.slice p1 (at0 L 0).bytes.length pc1) ∧ W.cell? ⟨g, o + 3, none⟩ = some (.float .f64 (at0 L 0).real) ∧ W.cell? ⟨g, o + 4, none⟩ = some (.slice p2 (at0 L 0).list.length pc2)) ∧ (W.cell? ⟨g, o + 5, none⟩ = some (.int .i64 (at0 L 1).kind) ∧ W.cell? ⟨g, o + 5 + 1, none⟩ = some (.int .u64 (at0 L 1).num) ∧ W.cell? ⟨g, o + 5 + 2, none⟩ = some (.slice q1 (at0 L 1).bytes.length qc1) ∧ W.cell? ⟨g, o + 5 + 3, none⟩ = some (.float .f64 (at0 L 1).real) ∧ W.cell? ⟨g, o + 5 + 4, none⟩ = some (.slice q2 (at0 L 1).list.length qc2)) ∧ (convert 22 9 (.slice p1 (at0 L 0).bytes.length pc1)).run Tryd.prog W = .ok (.string ⟨(at0 L 0).bytes.toArray⟩) W)) (by kernel_rfl) (by exact HK.out _ (fun _ _ => rfl)) (fun hHeld => ?_)
        refine wpAnyH_take (i := 0) (oi := ⟨_, _, _, _, _, _⟩) (v := ?_) rfl (by kernel_rfl) (by kernel_rfl) (by kernel_rfl) (fun _ _ _ h => h) (Or.inl ⟨by rfl, ?_⟩) (by assumption) ?_
        rotate_left
        · intro w hSw; (try dsimp only at hSw); first | (go_simp; done) | (go_simp; with_reducible rfl)
        try simp only [Act.put, List.setIfInBounds_toArray, List.set_cons_zero, List.set_cons_succ]
        refine wpAnyH_take (i := 1) (oi := ⟨_, _, _, _, _, _⟩) (v := ?_) rfl (by kernel_rfl) (by kernel_rfl) (by kernel_rfl) (fun _ _ _ h => h) (Or.inl ⟨by rfl, ?_⟩) (by assumption) ?_
        rotate_left
        · intro w hSw; (try dsimp only at hSw); first | (go_simp; done) | (go_simp; with_reducible rfl)
        try simp only [Act.put, List.setIfInBounds_toArray, List.set_cons_zero, List.set_cons_succ]
        refine wpAnyH_take (i := 2) (oi := ⟨_, _, _, _, _, _⟩) (v := ?_) rfl (by kernel_rfl) (by kernel_rfl) (by kernel_rfl) (fun _ _ _ h => h) (Or.inl ⟨by rfl, ?_⟩) (by assumption) ?_
        rotate_left
        · intro w hSw; (try dsimp only at hSw); first | (go_simp; done) | (go_simp; with_reducible rfl)
        try simp only [Act.put, List.setIfInBounds_toArray, List.set_cons_zero, List.set_cons_succ]
        refine wpAnyH_take (i := 5) (oi := ⟨_, _, _, _, _, _⟩) (v := ?_) rfl (by kernel_rfl) (by kernel_rfl) (by kernel_rfl) (fun _ _ _ h => h) (Or.inl ⟨by rfl, ?_⟩) (by assumption) ?_
        rotate_left
        · intro w hSw; (try dsimp only at hSw); first | (go_simp; done) | (go_simp; with_reducible rfl)
        try simp only [Act.put, List.setIfInBounds_toArray, List.set_cons_zero, List.set_cons_succ]
        refine wpAnyH_take (i := 6) (oi := ⟨_, _, _, _, _, _⟩) (v := ?_) rfl (by kernel_rfl) (by kernel_rfl) (by kernel_rfl) (fun _ _ _ h => h) (Or.inl ⟨by rfl, ?_⟩) (by assumption) ?_
        rotate_left
        · intro w hSw; (try dsimp only at hSw); first | (go_simp; done) | (go_simp; with_reducible rfl)
        try simp only [Act.put, List.setIfInBounds_toArray, List.set_cons_zero, List.set_cons_succ]
        refine wpAnyH_take (i := 7) (oi := ⟨_, _, _, _, _, _⟩) (v := ?_) rfl (by kernel_rfl) (by kernel_rfl) (by kernel_rfl) (fun _ _ _ h => h) (Or.inl ⟨by rfl, ?_⟩) (by assumption) ?_
        rotate_left
        · intro w hSw; (try dsimp only at hSw); first | (go_simp; done) | (go_simp; with_reducible rfl)
        try simp only [Act.put, List.setIfInBounds_toArray, List.set_cons_zero, List.set_cons_succ]
        refine wpAnyH_ready (rs := [3, 10]) (by kernel_rfl) (by simp) ?_
        refine AllReadyH.cons (o := ⟨_, _, _, _, _, _⟩) rfl (fun K hK => ?_) (AllReadyH.cons (o := ⟨_, _, _, _, _, _⟩) rfl (fun K hK => ?_) AllReadyH.nil)
        · go_simp
          refine (HT.out _ HBc.out).mono ?_
          rintro e w2 ⟨vv, rfl, ⟨rfl, _⟩, hb2⟩
          have HBc : Hid (Below w1.heap.size w1 w2) := Lib.hid (HBc.out.trans (hb2.mono HBc.out.size))
          clear hb2
          try go_wp2_with fail
          refine hK.out _ _ (by exact HK.out _ (fun k hk => HBc.out.block k (by have := HZ1.out; omega))) (fun hHeld => ?_)
          clear hK K
          try simp only [Act.put, List.setIfInBounds_toArray, List.set_cons_zero, List.set_cons_succ]
          refine wpAnyH_take (i := 4) (oi := ⟨_, _, _, _, _, _⟩) (v := ?_) rfl (by kernel_rfl) (by kernel_rfl) (by kernel_rfl) (fun _ _ _ h => h) (Or.inl ⟨by rfl, ?_⟩) (by assumption) ?_
          rotate_left
          · intro w hSw; (try dsimp only at hSw); first | (go_simp; done) | (go_simp; with_reducible rfl)
          try simp only [Act.put, List.setIfInBounds_toArray, List.set_cons_zero, List.set_cons_succ]
          refine wpAnyH_ready (rs := [8, 10]) (by kernel_rfl) (by simp) ?_
          refine AllReadyH.cons (o := ⟨_, _, _, _, _, _⟩) rfl (fun K hK => ?_) (AllReadyH.cons (o := ⟨_, _, _, _, _, _⟩) rfl (fun K hK => ?_) AllReadyH.nil)
          · go_simp
            refine (HI.out _ HBc.out).mono ?_
            rintro e w3 ⟨vv, rfl, ⟨rfl, hX⟩, hb3⟩
            have HX := Lib.hid hX
            have HBc : Hid (Below w1.heap.size w1 w3) := Lib.hid (HBc.out.trans (hb3.mono HBc.out.size))
            clear hb3 hX
            try go_wp2_with fail
            refine hK.out _ _ (by exact HK.out _ (fun k hk => HBc.out.block k (by have := HZ1.out; omega))) (fun hHeld => ?_)
            clear hK K
            try simp only [Act.put, List.setIfInBounds_toArray, List.set_cons_zero, List.set_cons_succ]
            have hX2 := HX.out
            have zx : (bv X).length = n32 := by rw [bv_len, hX2]; rfl
            have hne := ent_ne
            have hlt5 := ent_lt
            have hfo := ent_fill (at0 L 0).bytes X hX2
            refine wpAnyH_take (i := 9) (oi := ⟨_, _, _, _, _, _⟩) (v := ?_) rfl (by kernel_rfl) (by kernel_rfl) (by kernel_rfl) (fun _ _ _ h => h) (Or.inl ⟨by rfl, ?_⟩) (by assumption) ?_
            rotate_left
            · intro w hSw; (try dsimp only at hSw); first | (go_simp; done) | (go_simp; with_reducible rfl)
            try simp only [Act.put, List.setIfInBounds_toArray, List.set_cons_zero, List.set_cons_succ]
            clear zx hne hlt5 hX2 hfo
            refine wpAnyH_ready (rs := [10]) (by kernel_rfl) (by simp) ?_
            refine AllReadyH.cons (o := ⟨_, _, _, _, _, _⟩) rfl (fun K hK => ?_) AllReadyH.nil
            go_simp
            refine any_stepC (fun wa hN => ?_)
            have HA : Hid (RF wa w3.heap.size 45 n35 (entF noEnt)) := Lib.hid (by rw [hN]; first | exact RF.new _ _ _ _ | exact (RF.new _ _ _ _).kept rfl)
            have HZQ : Hid (w1.heap.size ≤ w3.heap.size) := Lib.hid HBc.out.size
            have HBc : Hid (Below w1.heap.size w1 wa) := Lib.hid (by rw [hN]; first | exact HBc.out.alloc HBc.out.size _ | exact (HBc.out.alloc HBc.out.size _).drew)
            clear hN
            try go_wp2_with fail
            refine hK.out _ _ (by exact HK.out _ (fun k hk => HBc.out.block k (by have := HZ1.out; omega))) (fun hHeld => ?_)
            clear hK K
            try simp only [Act.put, List.setIfInBounds_toArray, List.set_cons_zero, List.set_cons_succ]
            have hst5 := HA.out.write (ent_one ⟨(at0 L 0).bytes, false, X, 0⟩ n35)
            have hol5 := rowL_len n35 (entF ⟨(at0 L 0).bytes, false, X, 0⟩)
            refine wpAnyH_ready (rs := [11]) (by kernel_rfl) (by simp) ?_
            refine AllReadyH.cons (o := ⟨_, _, _, _, _, _⟩) rfl (fun K hK => ?_) AllReadyH.nil
            go_simp
            refine any_stepC (fun w5 hN => ?_)
            have HA : Hid (RF w5 w3.heap.size 45 n35 (entF ⟨(at0 L 0).bytes, false, X, 0⟩)) := Lib.hid (by rw [hN]; exact HA.out.put _)
            have HBc : Hid (Below w1.heap.size w1 w5) := Lib.hid (by rw [hN]; exact below_setRow HBc.out (by have := HZQ.out; omega) _)
            clear hN hst5 hol5
            try go_wp2_with fail
            refine hK.out _ _ (by exact HK.out _ (fun k hk => HBc.out.block k (by have := HZ1.out; omega))) (fun hHeld => ?_)
            clear hK K
            try simp only [Act.put, List.setIfInBounds_toArray, List.set_cons_zero, List.set_cons_succ]
            refine wpAnyH_done (by kernel_rfl) ?_ _
            clear hHeld
            by_cases hm3 : m = 2
            · have HE2 : Hid (entryL L = .ok ⟨(at0 L 0).bytes, true, X, 0⟩) := Lib.hid (by rw [HE.out]; simp only [andR]; rw [if_pos hm3, HTB.out _ rfl])
              have c1 : w5.cell? ⟨w3.heap.size, 1, none⟩ = some (.bool false) := HA.out.cell (k := 1) (by unfold n35; omega)
              have z1 : w5.frozen? ⟨w3.heap.size, 1, none⟩ = false := HA.out.free 1
              have A6 : RF (w5.setCell ⟨w3.heap.size, 1, none⟩ (.bool true)) w3.heap.size 45 n35 (entF ⟨(at0 L 0).bytes, true, X, 0⟩) := (HA.out.set (k := 1) (by unfold n35; omega) (.bool true)).congr (fun j _ => ent_folder _ _ _ j)
              have l6 := A6.cells
              have hne6 : w.heap.size + 1 ≠ w3.heap.size := by have := HZ1.out; have := HZQ.out; omega
              have R6 := (HR1.out.kept (HBc.out.block _ (by have := HZ1.out; omega))).kept (w' := w5.setCell ⟨w3.heap.size, 1, none⟩ (.bool true)) (Below.heap_setCell _ _ _ _ (by simpa using hne6))
              have s6 := R6.write (ent_one ⟨(at0 L 0).bytes, true, X, 0⟩ n35)
              have hol6 := rowL_len n35 (entF ⟨(at0 L 0).bytes, true, X, 0⟩)
              have HP6 := Lib.hid (R6.put (entF ⟨(at0 L 0).bytes, true, X, 0⟩))
              have HB6 := Lib.hid (below_setRow (B := w.heap.size) (g := w.heap.size + 1) ((HB1.out.trans (HBc.out.mono HB1.out.size)).setCell (p := ⟨w3.heap.size, 1, none⟩) (by show w.heap.size ≤ w3.heap.size; have := HZ1.out; have := HZQ.out; omega) (.bool true)) (by omega) (rowL n35 (entF ⟨(at0 L 0).bytes, true, X, 0⟩)).toArray)
              have gm : ((m : Int) == 2) = true := by rw [hm3]; rfl
              clear A6 R6 hne6
              go_wp2_with fail
              refine bodyPost_ret (results_one Tryd.results70 _ _ rfl (HP6.out.var (ent_agg _) (ent_size _))) rfl ?_
              rw [HE2.out]
              exact ⟨_, rfl, ⟨rfl, HX.out, by show (0 : Nat) < _; omega⟩, HB6.out⟩
            · have hm2i : (2 : Int) < (m : Int) := by omega
              have hm2n : 2 < m := by omega
              have HE3 : Hid (entryL L = andR (stampR (at0 L 2)) fun s => .ok ⟨(at0 L 0).bytes, false, X, s⟩) := Lib.hid (by rw [HE.out]; simp only [andR]; rw [if_neg hm3, HTB.out _ rfl])
              obtain ⟨g3, o3, r1, rc1, r2, rc2, heq3, hSg, _, _, ⟨k0, k1, k2, k3, k4⟩, hx3⟩ := HL1.out.el2 HM.out (j := 2) hm2n
              injection heq3 with heq3
              injection heq3 with heq31 heq32
              subst heq31 heq32
              have hq5 : ∀ j, w5.cell? ⟨g, j, none⟩ = w1.cell? ⟨g, j, none⟩ := fun j => World.cell?_of_block (w := w1) (HBc.out.block g (by have := HS.out g hSg; have := HZ1.out; omega))
              rw [← hq5] at k0 k1 k2 k3 k4
              have HSt := Lib.hid (rstamp_any S n _ _ w5 (ReadsS.kept (fun k hk => ⟨hk, HBc.out.block k (by have := HS.out k hk; have := HZ1.out; omega)⟩) (n + 1) _ _ hx3))
              clear hx3 hq5 hSg
              have hne6 : w.heap.size + 1 ≠ w3.heap.size := by have := HZ1.out; have := HZQ.out; omega
              have HNE6 := Lib.hid hne6
              clear hne6
              generalize stampR (at0 L 2) = rs at *
              have gm : ((m : Int) == 2) = false := by rw [beq_eq_false_iff_ne]; omega
              go_wp2_with fail
              refine HSt.out.mono ?_
              intro e w6 h6
              cases rs with
              | error c =>
                obtain ⟨rfl, hb6⟩ := h6
                have HB6 := Lib.hid (HB1.out.trans ((HBc.out.trans (hb6.mono HBc.out.size)).mono HB1.out.size))
                clear hb6
                go_wp2_with fail
                refine ⟨rfl, ?_⟩
                rw [HE3.out]
                exact ⟨rfl, HB6.out⟩
              | ok s =>
                obtain ⟨vv, rfl, ⟨rfl, hs⟩, hb6⟩ := h6
                have HA6 := Lib.hid (HA.out.kept (hb6.block _ HA.out.lt))
                have HSs := Lib.hid hs
                have HB6 : Hid (Below w1.heap.size w1 w6) := Lib.hid (HBc.out.trans (hb6.mono HBc.out.size))
                clear hb6 hs k0 k1 k2 k3 k4
                have c1 : w6.cell? ⟨w3.heap.size, 34, none⟩ = some (.float .f64 0) := HA6.out.cell (k := 34) (by unfold n35; omega)
                have z1 : w6.frozen? ⟨w3.heap.size, 34, none⟩ = false := HA6.out.free 34
                have A6 : RF (w6.setCell ⟨w3.heap.size, 34, none⟩ (.float .f64 s)) w3.heap.size 45 n35 (entF ⟨(at0 L 0).bytes, false, X, s⟩) := (HA6.out.set (k := 34) (by unfold n35; omega) (.float .f64 s)).congr (fun j hj => ent_stamp _ _ _ _ _ j hj)
                have l6 := A6.cells
                have R6 := (HR1.out.kept (HB6.out.block _ (by have := HZ1.out; omega))).kept (w' := w6.setCell ⟨w3.heap.size, 34, none⟩ (.float .f64 s)) (Below.heap_setCell _ _ _ _ (by simpa using HNE6.out))
                have s6 := R6.write (ent_one ⟨(at0 L 0).bytes, false, X, s⟩ n35)
                have hol6 := rowL_len n35 (entF ⟨(at0 L 0).bytes, false, X, s⟩)
                have HP6 := Lib.hid (R6.put (entF ⟨(at0 L 0).bytes, false, X, s⟩))
                have HB7 := Lib.hid (below_setRow (B := w.heap.size) (g := w.heap.size + 1) ((HB1.out.trans (HB6.out.mono HB1.out.size)).setCell (p := ⟨w3.heap.size, 34, none⟩) (by show w.heap.size ≤ w3.heap.size; have := HZ1.out; have := HZQ.out; omega) (.float .f64 s)) (by omega) (rowL n35 (entF ⟨(at0 L 0).bytes, false, X, s⟩)).toArray)
                clear A6 R6
                go_wp2_with fail
                refine bodyPost_ret (results_one Tryd.results70 _ _ rfl (HP6.out.var (ent_agg _) (ent_size _))) rfl ?_
                rw [HE3.out]
                exact ⟨_, rfl, ⟨rfl, HX.out, HSs.out⟩, HB7.out⟩
          · go_simp
            refine any_stepC (fun wa hN => ?_)
            have HA : Hid (RF wa w2.heap.size 45 n35 (entF noEnt)) := Lib.hid (by rw [hN]; first | exact RF.new _ _ _ _ | exact (RF.new _ _ _ _).kept rfl)
            have HZQ : Hid (w1.heap.size ≤ w2.heap.size) := Lib.hid HBc.out.size
            have HBc : Hid (Below w1.heap.size w1 wa) := Lib.hid (by rw [hN]; first | exact HBc.out.alloc HBc.out.size _ | exact (HBc.out.alloc HBc.out.size _).drew)
            clear hN
            try go_wp2_with fail
            refine hK.out _ _ (by exact HK.out _ (fun k hk => HBc.out.block k (by have := HZ1.out; omega))) (fun hHeld => ?_)
            clear hK K
            try simp only [Act.put, List.setIfInBounds_toArray, List.set_cons_zero, List.set_cons_succ]
            refine wpAnyH_ready (rs := [8]) (by kernel_rfl) (by simp) ?_
            refine AllReadyH.cons (o := ⟨_, _, _, _, _, _⟩) rfl (fun K hK => ?_) AllReadyH.nil
            go_simp
            refine (HI.out _ HBc.out).mono ?_
            rintro e w3 ⟨vv, rfl, ⟨rfl, hX⟩, hb3⟩
            have HX := Lib.hid hX
            have HBc : Hid (Below w1.heap.size w1 w3) := Lib.hid (HBc.out.trans (hb3.mono HBc.out.size))
            have HA := Lib.hid (HA.out.kept (hb3.block _ HA.out.lt))
            clear hb3 hX
            try go_wp2_with fail
            refine hK.out _ _ (by exact HK.out _ (fun k hk => HBc.out.block k (by have := HZ1.out; omega))) (fun hHeld => ?_)
            clear hK K
            try simp only [Act.put, List.setIfInBounds_toArray, List.set_cons_zero, List.set_cons_succ]
            have hX2 := HX.out
            have zx : (bv X).length = n32 := by rw [bv_len, hX2]; rfl
            have hne := ent_ne
            have hlt5 := ent_lt
            have hfo := ent_fill (at0 L 0).bytes X hX2
            refine wpAnyH_take (i := 9) (oi := ⟨_, _, _, _, _, _⟩) (v := ?_) rfl (by kernel_rfl) (by kernel_rfl) (by kernel_rfl) (fun _ _ _ h => h) (Or.inl ⟨by rfl, ?_⟩) (by assumption) ?_
            rotate_left
            · intro w hSw; (try dsimp only at hSw); first | (go_simp; done) | (go_simp; with_reducible rfl)
            try simp only [Act.put, List.setIfInBounds_toArray, List.set_cons_zero, List.set_cons_succ]
            clear zx hne hlt5 hX2 hfo
            have hst5 := HA.out.write (ent_one ⟨(at0 L 0).bytes, false, X, 0⟩ n35)
            have hol5 := rowL_len n35 (entF ⟨(at0 L 0).bytes, false, X, 0⟩)
            refine wpAnyH_ready (rs := [11]) (by kernel_rfl) (by simp) ?_
            refine AllReadyH.cons (o := ⟨_, _, _, _, _, _⟩) rfl (fun K hK => ?_) AllReadyH.nil
            go_simp
            refine any_stepC (fun w5 hN => ?_)
            have HA : Hid (RF w5 w2.heap.size 45 n35 (entF ⟨(at0 L 0).bytes, false, X, 0⟩)) := Lib.hid (by rw [hN]; exact HA.out.put _)
            have HBc : Hid (Below w1.heap.size w1 w5) := Lib.hid (by rw [hN]; exact below_setRow HBc.out (by have := HZQ.out; omega) _)
            clear hN hst5 hol5
            try go_wp2_with fail
            refine hK.out _ _ (by exact HK.out _ (fun k hk => HBc.out.block k (by have := HZ1.out; omega))) (fun hHeld => ?_)
            clear hK K
            try simp only [Act.put, List.setIfInBounds_toArray, List.set_cons_zero, List.set_cons_succ]
            refine wpAnyH_done (by kernel_rfl) ?_ _
            clear hHeld
            by_cases hm3 : m = 2
            · have HE2 : Hid (entryL L = .ok ⟨(at0 L 0).bytes, true, X, 0⟩) := Lib.hid (by rw [HE.out]; simp only [andR]; rw [if_pos hm3, HTB.out _ rfl])
              have c1 : w5.cell? ⟨w2.heap.size, 1, none⟩ = some (.bool false) := HA.out.cell (k := 1) (by unfold n35; omega)
              have z1 : w5.frozen? ⟨w2.heap.size, 1, none⟩ = false := HA.out.free 1
              have A6 : RF (w5.setCell ⟨w2.heap.size, 1, none⟩ (.bool true)) w2.heap.size 45 n35 (entF ⟨(at0 L 0).bytes, true, X, 0⟩) := (HA.out.set (k := 1) (by unfold n35; omega) (.bool true)).congr (fun j _ => ent_folder _ _ _ j)
              have l6 := A6.cells
              have hne6 : w.heap.size + 1 ≠ w2.heap.size := by have := HZ1.out; have := HZQ.out; omega
              have R6 := (HR1.out.kept (HBc.out.block _ (by have := HZ1.out; omega))).kept (w' := w5.setCell ⟨w2.heap.size, 1, none⟩ (.bool true)) (Below.heap_setCell _ _ _ _ (by simpa using hne6))
              have s6 := R6.write (ent_one ⟨(at0 L 0).bytes, true, X, 0⟩ n35)
              have hol6 := rowL_len n35 (entF ⟨(at0 L 0).bytes, true, X, 0⟩)
              have HP6 := Lib.hid (R6.put (entF ⟨(at0 L 0).bytes, true, X, 0⟩))
              have HB6 := Lib.hid (below_setRow (B := w.heap.size) (g := w.heap.size + 1) ((HB1.out.trans (HBc.out.mono HB1.out.size)).setCell (p := ⟨w2.heap.size, 1, none⟩) (by show w.heap.size ≤ w2.heap.size; have := HZ1.out; have := HZQ.out; omega) (.bool true)) (by omega) (rowL n35 (entF ⟨(at0 L 0).bytes, true, X, 0⟩)).toArray)
              have gm : ((m : Int) == 2) = true := by rw [hm3]; rfl
              clear A6 R6 hne6
              go_wp2_with fail
              refine bodyPost_ret (results_one Tryd.results70 _ _ rfl (HP6.out.var (ent_agg _) (ent_size _))) rfl ?_
              rw [HE2.out]
              exact ⟨_, rfl, ⟨rfl, HX.out, by show (0 : Nat) < _; omega⟩, HB6.out⟩
            · have hm2i : (2 : Int) < (m : Int) := by omega
              have hm2n : 2 < m := by omega
              have HE3 : Hid (entryL L = andR (stampR (at0 L 2)) fun s => .ok ⟨(at0 L 0).bytes, false, X, s⟩) := Lib.hid (by rw [HE.out]; simp only [andR]; rw [if_neg hm3, HTB.out _ rfl])
              obtain ⟨g3, o3, r1, rc1, r2, rc2, heq3, hSg, _, _, ⟨k0, k1, k2, k3, k4⟩, hx3⟩ := HL1.out.el2 HM.out (j := 2) hm2n
              injection heq3 with heq3
              injection heq3 with heq31 heq32
              subst heq31 heq32
              have hq5 : ∀ j, w5.cell? ⟨g, j, none⟩ = w1.cell? ⟨g, j, none⟩ := fun j => World.cell?_of_block (w := w1) (HBc.out.block g (by have := HS.out g hSg; have := HZ1.out; omega))
              rw [← hq5] at k0 k1 k2 k3 k4
              have HSt := Lib.hid (rstamp_any S n _ _ w5 (ReadsS.kept (fun k hk => ⟨hk, HBc.out.block k (by have := HS.out k hk; have := HZ1.out; omega)⟩) (n + 1) _ _ hx3))
              clear hx3 hq5 hSg
              have hne6 : w.heap.size + 1 ≠ w2.heap.size := by have := HZ1.out; have := HZQ.out; omega
              have HNE6 := Lib.hid hne6
              clear hne6
              generalize stampR (at0 L 2) = rs at *
              have gm : ((m : Int) == 2) = false := by rw [beq_eq_false_iff_ne]; omega
              go_wp2_with fail
              refine HSt.out.mono ?_
              intro e w6 h6
              cases rs with
              | error c =>
                obtain ⟨rfl, hb6⟩ := h6
                have HB6 := Lib.hid (HB1.out.trans ((HBc.out.trans (hb6.mono HBc.out.size)).mono HB1.out.size))
                clear hb6
                go_wp2_with fail
                refine ⟨rfl, ?_⟩
                rw [HE3.out]
                exact ⟨rfl, HB6.out⟩
              | ok s =>
                obtain ⟨vv, rfl, ⟨rfl, hs⟩, hb6⟩ := h6
                have HA6 := Lib.hid (HA.out.kept (hb6.block _ HA.out.lt))
                have HSs := Lib.hid hs
                have HB6 : Hid (Below w1.heap.size w1 w6) := Lib.hid (HBc.out.trans (hb6.mono HBc.out.size))
                clear hb6 hs k0 k1 k2 k3 k4
                have c1 : w6.cell? ⟨w2.heap.size, 34, none⟩ = some (.float .f64 0) := HA6.out.cell (k := 34) (by unfold n35; omega)
                have z1 : w6.frozen? ⟨w2.heap.size, 34, none⟩ = false := HA6.out.free 34
                have A6 : RF (w6.setCell ⟨w2.heap.size, 34, none⟩ (.float .f64 s)) w2.heap.size 45 n35 (entF ⟨(at0 L 0).bytes, false, X, s⟩) := (HA6.out.set (k := 34) (by unfold n35; omega) (.float .f64 s)).congr (fun j hj => ent_stamp _ _ _ _ _ j hj)
                have l6 := A6.cells
                have R6 := (HR1.out.kept (HB6.out.block _ (by have := HZ1.out; omega))).kept (w' := w6.setCell ⟨w2.heap.size, 34, none⟩ (.float .f64 s)) (Below.heap_setCell _ _ _ _ (by simpa using HNE6.out))
                have s6 := R6.write (ent_one ⟨(at0 L 0).bytes, false, X, s⟩ n35)
                have hol6 := rowL_len n35 (entF ⟨(at0 L 0).bytes, false, X, s⟩)
                have HP6 := Lib.hid (R6.put (entF ⟨(at0 L 0).bytes, false, X, s⟩))
                have HB7 := Lib.hid (below_setRow (B := w.heap.size) (g := w.heap.size + 1) ((HB1.out.trans (HB6.out.mono HB1.out.size)).setCell (p := ⟨w2.heap.size, 34, none⟩) (by show w.heap.size ≤ w2.heap.size; have := HZ1.out; have := HZQ.out; omega) (.float .f64 s)) (by omega) (rowL n35 (entF ⟨(at0 L 0).bytes, false, X, s⟩)).toArray)
                clear A6 R6
                go_wp2_with fail
                refine bodyPost_ret (results_one Tryd.results70 _ _ rfl (HP6.out.var (ent_agg _) (ent_size _))) rfl ?_
                rw [HE3.out]
                exact ⟨_, rfl, ⟨rfl, HX.out, HSs.out⟩, HB7.out⟩
        · go_simp
          refine any_stepC (fun wa hN => ?_)
          have HA : Hid (RF wa w1.heap.size 45 n35 (entF noEnt)) := Lib.hid (by rw [hN]; first | exact RF.new _ _ _ _ | exact (RF.new _ _ _ _).kept rfl)
          have HZQ : Hid (w1.heap.size ≤ w1.heap.size) := Lib.hid HBc.out.size
          have HBc : Hid (Below w1.heap.size w1 wa) := Lib.hid (by rw [hN]; first | exact HBc.out.alloc HBc.out.size _ | exact (HBc.out.alloc HBc.out.size _).drew)
          clear hN
          try go_wp2_with fail
          refine hK.out _ _ (by exact HK.out _ (fun k hk => HBc.out.block k (by have := HZ1.out; omega))) (fun hHeld => ?_)
          clear hK K
          try simp only [Act.put, List.setIfInBounds_toArray, List.set_cons_zero, List.set_cons_succ]
          refine wpAnyH_ready (rs := [3]) (by kernel_rfl) (by simp) ?_
          refine AllReadyH.cons (o := ⟨_, _, _, _, _, _⟩) rfl (fun K hK => ?_) AllReadyH.nil
          go_simp
          refine (HT.out _ HBc.out).mono ?_
          rintro e w2 ⟨vv, rfl, ⟨rfl, _⟩, hb2⟩
          have HBc : Hid (Below w1.heap.size w1 w2) := Lib.hid (HBc.out.trans (hb2.mono HBc.out.size))
          have HA := Lib.hid (HA.out.kept (hb2.block _ HA.out.lt))
          clear hb2
          try go_wp2_with fail
          refine hK.out _ _ (by exact HK.out _ (fun k hk => HBc.out.block k (by have := HZ1.out; omega))) (fun hHeld => ?_)
          clear hK K
          try simp only [Act.put, List.setIfInBounds_toArray, List.set_cons_zero, List.set_cons_succ]
          refine wpAnyH_take (i := 4) (oi := ⟨_, _, _, _, _, _⟩) (v := ?_) rfl (by kernel_rfl) (by kernel_rfl) (by kernel_rfl) (fun _ _ _ h => h) (Or.inl ⟨by rfl, ?_⟩) (by assumption) ?_
          rotate_left
          · intro w hSw; (try dsimp only at hSw); first | (go_simp; done) | (go_simp; with_reducible rfl)
          try simp only [Act.put, List.setIfInBounds_toArray, List.set_cons_zero, List.set_cons_succ]
          refine wpAnyH_ready (rs := [8]) (by kernel_rfl) (by simp) ?_
          refine AllReadyH.cons (o := ⟨_, _, _, _, _, _⟩) rfl (fun K hK => ?_) AllReadyH.nil
          go_simp
          refine (HI.out _ HBc.out).mono ?_
          rintro e w3 ⟨vv, rfl, ⟨rfl, hX⟩, hb3⟩
          have HX := Lib.hid hX
          have HBc : Hid (Below w1.heap.size w1 w3) := Lib.hid (HBc.out.trans (hb3.mono HBc.out.size))
          have HA := Lib.hid (HA.out.kept (hb3.block _ HA.out.lt))
          clear hb3 hX
          try go_wp2_with fail
          refine hK.out _ _ (by exact HK.out _ (fun k hk => HBc.out.block k (by have := HZ1.out; omega))) (fun hHeld => ?_)
          clear hK K
          try simp only [Act.put, List.setIfInBounds_toArray, List.set_cons_zero, List.set_cons_succ]
          have hX2 := HX.out
          have zx : (bv X).length = n32 := by rw [bv_len, hX2]; rfl
          have hne := ent_ne
          have hlt5 := ent_lt
          have hfo := ent_fill (at0 L 0).bytes X hX2
          refine wpAnyH_take (i := 9) (oi := ⟨_, _, _, _, _, _⟩) (v := ?_) rfl (by kernel_rfl) (by kernel_rfl) (by kernel_rfl) (fun _ _ _ h => h) (Or.inl ⟨by rfl, ?_⟩) (by assumption) ?_
          rotate_left
          · intro w hSw; (try dsimp only at hSw); first | (go_simp; done) | (go_simp; with_reducible rfl)
          try simp only [Act.put, List.setIfInBounds_toArray, List.set_cons_zero, List.set_cons_succ]
          clear zx hne hlt5 hX2 hfo
          have hst5 := HA.out.write (ent_one ⟨(at0 L 0).bytes, false, X, 0⟩ n35)
          have hol5 := rowL_len n35 (entF ⟨(at0 L 0).bytes, false, X, 0⟩)
          refine wpAnyH_ready (rs := [11]) (by kernel_rfl) (by simp) ?_
          refine AllReadyH.cons (o := ⟨_, _, _, _, _, _⟩) rfl (fun K hK => ?_) AllReadyH.nil
          go_simp
          refine any_stepC (fun w5 hN => ?_)
          have HA : Hid (RF w5 w1.heap.size 45 n35 (entF ⟨(at0 L 0).bytes, false, X, 0⟩)) := Lib.hid (by rw [hN]; exact HA.out.put _)
          have HBc : Hid (Below w1.heap.size w1 w5) := Lib.hid (by rw [hN]; exact below_setRow HBc.out (Nat.le_refl _) _)
          clear hN hst5 hol5
          try go_wp2_with fail
          refine hK.out _ _ (by exact HK.out _ (fun k hk => HBc.out.block k (by have := HZ1.out; omega))) (fun hHeld => ?_)
          clear hK K
          try simp only [Act.put, List.setIfInBounds_toArray, List.set_cons_zero, List.set_cons_succ]
          refine wpAnyH_done (by kernel_rfl) ?_ _
          clear hHeld
          by_cases hm3 : m = 2
          · have HE2 : Hid (entryL L = .ok ⟨(at0 L 0).bytes, true, X, 0⟩) := Lib.hid (by rw [HE.out]; simp only [andR]; rw [if_pos hm3, HTB.out _ rfl])
            have c1 : w5.cell? ⟨w1.heap.size, 1, none⟩ = some (.bool false) := HA.out.cell (k := 1) (by unfold n35; omega)
            have z1 : w5.frozen? ⟨w1.heap.size, 1, none⟩ = false := HA.out.free 1
            have A6 : RF (w5.setCell ⟨w1.heap.size, 1, none⟩ (.bool true)) w1.heap.size 45 n35 (entF ⟨(at0 L 0).bytes, true, X, 0⟩) := (HA.out.set (k := 1) (by unfold n35; omega) (.bool true)).congr (fun j _ => ent_folder _ _ _ j)
            have l6 := A6.cells
            have hne6 : w.heap.size + 1 ≠ w1.heap.size := by have := HZ1.out; have := HZQ.out; omega
            have R6 := (HR1.out.kept (HBc.out.block _ (by have := HZ1.out; omega))).kept (w' := w5.setCell ⟨w1.heap.size, 1, none⟩ (.bool true)) (Below.heap_setCell _ _ _ _ (by simpa using hne6))
            have s6 := R6.write (ent_one ⟨(at0 L 0).bytes, true, X, 0⟩ n35)
            have hol6 := rowL_len n35 (entF ⟨(at0 L 0).bytes, true, X, 0⟩)
            have HP6 := Lib.hid (R6.put (entF ⟨(at0 L 0).bytes, true, X, 0⟩))
            have HB6 := Lib.hid (below_setRow (B := w.heap.size) (g := w.heap.size + 1) ((HB1.out.trans (HBc.out.mono HB1.out.size)).setCell (p := ⟨w1.heap.size, 1, none⟩) (by show w.heap.size ≤ w1.heap.size; have := HZ1.out; have := HZQ.out; omega) (.bool true)) (by omega) (rowL n35 (entF ⟨(at0 L 0).bytes, true, X, 0⟩)).toArray)
            have gm : ((m : Int) == 2) = true := by rw [hm3]; rfl
            clear A6 R6 hne6
            go_wp2_with fail
            refine bodyPost_ret (results_one Tryd.results70 _ _ rfl (HP6.out.var (ent_agg _) (ent_size _))) rfl ?_
            rw [HE2.out]
            exact ⟨_, rfl, ⟨rfl, HX.out, by show (0 : Nat) < _; omega⟩, HB6.out⟩
          · have hm2i : (2 : Int) < (m : Int) := by omega
            have hm2n : 2 < m := by omega
            have HE3 : Hid (entryL L = andR (stampR (at0 L 2)) fun s => .ok ⟨(at0 L 0).bytes, false, X, s⟩) := Lib.hid (by rw [HE.out]; simp only [andR]; rw [if_neg hm3, HTB.out _ rfl])
            obtain ⟨g3, o3, r1, rc1, r2, rc2, heq3, hSg, _, _, ⟨k0, k1, k2, k3, k4⟩, hx3⟩ := HL1.out.el2 HM.out (j := 2) hm2n
            injection heq3 with heq3
            injection heq3 with heq31 heq32
            subst heq31 heq32
            have hq5 : ∀ j, w5.cell? ⟨g, j, none⟩ = w1.cell? ⟨g, j, none⟩ := fun j => World.cell?_of_block (w := w1) (HBc.out.block g (by have := HS.out g hSg; have := HZ1.out; omega))
            rw [← hq5] at k0 k1 k2 k3 k4
            have HSt := Lib.hid (rstamp_any S n _ _ w5 (ReadsS.kept (fun k hk => ⟨hk, HBc.out.block k (by have := HS.out k hk; have := HZ1.out; omega)⟩) (n + 1) _ _ hx3))
            clear hx3 hq5 hSg
            have hne6 : w.heap.size + 1 ≠ w1.heap.size := by have := HZ1.out; have := HZQ.out; omega
            have HNE6 := Lib.hid hne6
            clear hne6
            generalize stampR (at0 L 2) = rs at *
            have gm : ((m : Int) == 2) = false := by rw [beq_eq_false_iff_ne]; omega
            go_wp2_with fail
            refine HSt.out.mono ?_
            intro e w6 h6
            cases rs with
            | error c =>
              obtain ⟨rfl, hb6⟩ := h6
              have HB6 := Lib.hid (HB1.out.trans ((HBc.out.trans (hb6.mono HBc.out.size)).mono HB1.out.size))
              clear hb6
              go_wp2_with fail
              refine ⟨rfl, ?_⟩
              rw [HE3.out]
              exact ⟨rfl, HB6.out⟩
            | ok s =>
              obtain ⟨vv, rfl, ⟨rfl, hs⟩, hb6⟩ := h6
              have HA6 := Lib.hid (HA.out.kept (hb6.block _ HA.out.lt))
              have HSs := Lib.hid hs
              have HB6 : Hid (Below w1.heap.size w1 w6) := Lib.hid (HBc.out.trans (hb6.mono HBc.out.size))
              clear hb6 hs k0 k1 k2 k3 k4
              have c1 : w6.cell? ⟨w1.heap.size, 34, none⟩ = some (.float .f64 0) := HA6.out.cell (k := 34) (by unfold n35; omega)
              have z1 : w6.frozen? ⟨w1.heap.size, 34, none⟩ = false := HA6.out.free 34
              have A6 : RF (w6.setCell ⟨w1.heap.size, 34, none⟩ (.float .f64 s)) w1.heap.size 45 n35 (entF ⟨(at0 L 0).bytes, false, X, s⟩) := (HA6.out.set (k := 34) (by unfold n35; omega) (.float .f64 s)).congr (fun j hj => ent_stamp _ _ _ _ _ j hj)
              have l6 := A6.cells
              have R6 := (HR1.out.kept (HB6.out.block _ (by have := HZ1.out; omega))).kept (w' := w6.setCell ⟨w1.heap.size, 34, none⟩ (.float .f64 s)) (Below.heap_setCell _ _ _ _ (by simpa using HNE6.out))
              have s6 := R6.write (ent_one ⟨(at0 L 0).bytes, false, X, s⟩ n35)
              have hol6 := rowL_len n35 (entF ⟨(at0 L 0).bytes, false, X, s⟩)
              have HP6 := Lib.hid (R6.put (entF ⟨(at0 L 0).bytes, false, X, s⟩))
              have HB7 := Lib.hid (below_setRow (B := w.heap.size) (g := w.heap.size + 1) ((HB1.out.trans (HB6.out.mono HB1.out.size)).setCell (p := ⟨w1.heap.size, 34, none⟩) (by show w.heap.size ≤ w1.heap.size; have := HZ1.out; have := HZQ.out; omega) (.float .f64 s)) (by omega) (rowL n35 (entF ⟨(at0 L 0).bytes, false, X, s⟩)).toArray)
              clear A6 R6
              go_wp2_with fail
              refine bodyPost_ret (results_one Tryd.results70 _ _ rfl (HP6.out.var (ent_agg _) (ent_size _))) rfl ?_
              rw [HE3.out]
              exact ⟨_, rfl, ⟨rfl, HX.out, HSs.out⟩, HB7.out⟩
end Go.Proofs.YtdolonkeanlaoaaDoor
