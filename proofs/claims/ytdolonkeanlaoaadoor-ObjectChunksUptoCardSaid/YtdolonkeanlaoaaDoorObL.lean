/- Commits in memory; the walk of object's readCommit. -/
import Derived.Test.YtdolonkeanlaoaaDoorObK
import Derived.Deep.DeepCutAuto
namespace Go.Proofs.YtdolonkeanlaoaaDoor
open Go.RowKit

def n36 : Nat := 36
theorem n36_ne : (n36 = 0) = False := by simp [n36]
/-- A commit's cells. -/
def comF (t : List UInt8) (a : Option Addr) (n c : Nat) (s : Nat) (au no : List UInt8) (k : Nat) : Value := if k < 32 then .int .u8 ((t.getD k 0).toNat : Int) else if k = 32 then .slice a n c else if k = 33 then .float .f64 s else if k = 34 then .string ⟨au.toArray⟩ else .string ⟨no.toArray⟩
theorem com_one (t : List UInt8) (a : Option Addr) (n c : Nat) (s : Nat) (au no : List UInt8) (m : Nat) : OneC m (comF t a n c s au no) := fun k _ => by
  unfold comF
  split
  · rfl
  split
  · rfl
  split
  · rfl
  split <;> rfl
theorem com_size (w : World) : (sizeOf 40).run Tryd.prog w = .ok n36 w := by rw [Tryd.sizeOf40]; rfl
theorem com_agg (w : World) : (isAgg 40).run Tryd.prog w = .ok true w := by rw [Tryd.isAgg40]
theorem com_zero (w : World) : (zeroValue 40).run Tryd.prog w = .ok (.agg (rowL n36 (comF zeros none 0 0 0 [] [])).toArray) w := by rw [Tryd.zeroValue40]; kernel_rfl
attribute [local simp high] id_size id_zero com_size com_zero n32_ne n36_ne
theorem com_fill_f (a : Option Addr) (n c : Nat) (f : Nat → UInt8) : (List.foldl (fun (cs : Array Value) (x : Value × Nat) => cs.setIfInBounds x.2 x.1) (rowL n36 (comF zeros none 0 0 0 [] [])).toArray (bv (idL f)).zipIdx).setIfInBounds 32 (.slice a n c) = (rowL n36 (comF (idL f) a n c 0 [] [])).toArray := by kernel_rfl
theorem com_fill (a : Option Addr) (n c : Nat) (X : List UInt8) (hX : X.length = 32) : (List.foldl (fun (cs : Array Value) (x : Value × Nat) => cs.setIfInBounds x.2 x.1) (rowL n36 (comF zeros none 0 0 0 [] [])).toArray (bv X).zipIdx).setIfInBounds 32 (.slice a n c) = (rowL n36 (comF X a n c 0 [] [])).toArray := by
  rw [idL_of hX]; exact com_fill_f a n c _
theorem com_ne : (rowL n36 (comF zeros none 0 0 0 [] []) = []) = False := by
  rw [eq_iff_iff, iff_false]
  intro h
  have := congrArg List.length h
  rw [rowL_len] at this
  exact absurd this (by decide)
theorem com_lt : (n36 < n32) = False := by simp [n36, n32]
theorem com_fsize_f (f : Nat → UInt8) : (List.foldl (fun (cs : Array Value) (x : Value × Nat) => cs.setIfInBounds x.2 x.1) (rowL n36 (comF zeros none 0 0 0 [] [])).toArray (bv (idL f)).zipIdx).size = 36 := by kernel_rfl
theorem com_fsize (X : List UInt8) (hX : X.length = 32) : ((List.foldl (fun (cs : Array Value) (x : Value × Nat) => cs.setIfInBounds x.2 x.1) (rowL n36 (comF zeros none 0 0 0 [] [])).toArray (bv X).zipIdx).size < 33) = False := by
  rw [idL_of hX, com_fsize_f]; simp
theorem com_set33 (t : List UInt8) (a : Option Addr) (n c s s' : Nat) (au no : List UInt8) (j : Nat) : (if j = 33 then Value.float .f64 s' else comF t a n c s au no j) = comF t a n c s' au no j := by
  unfold comF
  by_cases h : j = 33
  · subst h; rfl
  · simp [h]
theorem com_set34 (t : List UInt8) (a : Option Addr) (n c s : Nat) (au au' no : List UInt8) (j : Nat) (_ : j < 36) : (if j = 34 then Value.string ⟨au'.toArray⟩ else comF t a n c s au no j) = comF t a n c s au' no j := by
  unfold comF
  by_cases h : j = 34
  · subst h; rfl
  · simp [h]
theorem com_set35 (t : List UInt8) (a : Option Addr) (n c s : Nat) (au no no' : List UInt8) (j : Nat) (hj : j < 36) : (if j = 35 then Value.string ⟨no'.toArray⟩ else comF t a n c s au no j) = comF t a n c s au no' j := by
  unfold comF
  by_cases h : j = 35
  · subst h; rfl
  · rw [if_neg h]
    split
    · rfl
    split
    · rfl
    split
    · rfl
    · rw [if_pos (by omega), if_pos (by omega)]
/-- The block of a row. -/
def IdsRow (v : Value) (q : Nat) : Prop := v.ownBlock = some q
/-- A commit as a value. -/
def ComV (w w' : World) (v : Value) (x : ComN) : Prop := ∃ a c, v = .agg (rowL n36 (comF x.tree a x.parents.length c x.stamp x.author x.note)).toArray ∧ IdsV w w' (.slice a x.parents.length c) x.parents ∧ x.tree.length = 32 ∧ x.stamp < 18446744073709551616
set_option maxRecDepth 100000 in
set_option maxHeartbeats 8000000 in
theorem rcom_any (S : Nat → Prop) (v : Value) (l : List UInt8) (w : World) (hS : ∀ k, S k → k < w.heap.size) (hb : BytesC S w v l) :
    Calls Tryd.prog 36 #[v] w (GivesR (ComV w) w (comR l)) := by
  have hst := run_storeF
  obtain ⟨w0, hw0⟩ : ∃ w0, w0 = w.alloc (.cells (rowL n36 (comF zeros none 0 0 0 [] [])).toArray 40) := ⟨_, rfl⟩
  have hb0 : Below w.heap.size w w0 := by rw [hw0]; exact (Below.refl w.heap.size w).alloc (Nat.le_refl _) _
  have hz0 : w0.heap.size = w.heap.size + 1 := by rw [hw0]; simp
  have HF := Lib.hid (fields_any S v l 4 5 w0 (fun k hk => by have := hS k hk; omega) (hb.kept (fun k hk => ⟨hk, hb0.block k (hS k hk)⟩)) (by omega) (by omega))
  have HR0 : Hid (RF w0 w.heap.size 40 n36 (comF zeros none 0 0 0 [] [])) := Lib.hid (by rw [hw0]; exact RF.new _ _ _ _)
  have hol := rowL_len n36 (comF zeros none 0 0 0 [] [])
  unfold comR
  obtain ⟨sa, sc, rfl⟩ := hb.shape
  have HB0 := Lib.hid hb0
  have HZ0 := Lib.hid hz0
  rw [hw0] at HF
  have HW0 := Lib.hid hw0
  clear hb hS hb0 hz0 hw0
  cases hd : fieldsR l 4 5 with
  | error c =>
    rw [hd] at HF
    rw [andR_bad rfl]
    clear hd
    go_enter Tryd.func36, Tryd.ntmps36
    go_wp2_with fail
    refine HF.out.mono ?_
    rintro e w1 ⟨rfl, hb1⟩
    rw [← HW0.out] at hb1
    have HB := Lib.hid (HB0.out.trans (hb1.mono (by rw [HZ0.out]; omega)))
    clear hb1
    go_wp2
    exact ⟨rfl, rfl, HB.out⟩
  | ok vs =>
    rw [hd] at HF
    rw [andR_of rfl]
    obtain ⟨xx, hdx, hfx⟩ := andR_ok hd
    have HLEN := Lib.hid (fieldsV_ok hfx).2.1
    clear hd hdx hfx
    go_enter Tryd.func36, Tryd.ntmps36
    go_wp2_with fail
    refine HF.out.mono ?_
    rintro e w1 ⟨vl, rfl, hL, hb1⟩
    rw [← HW0.out] at hb1 hL
    obtain ⟨la, lc, rfl⟩ := ListS.shape hL
    rw [HLEN.out] at hL ⊢
    have HB1 := Lib.hid (HB0.out.trans (hb1.mono (by rw [HZ0.out]; omega)))
    have HZ1 : Hid (w.heap.size + 1 ≤ w1.heap.size) := Lib.hid (by have := hb1.size; rw [HZ0.out] at this; exact this)
    have HR1 := Lib.hid (HR0.out.kept (hb1.block _ (by rw [HZ0.out]; omega)))
    have HL1 := Lib.hid hL
    obtain ⟨g, o, p1, pc1, p2, pc2, rfl, hg, hlc, hcm, ⟨e0, e1, e2, e3, e4⟩, hx⟩ := hL.el HLEN.out (j := 0) (by omega)
    obtain ⟨g', o', q1, qc1, q2, qc2, heq, _, _, _, ⟨f0, f1, f2, f3, f4⟩, hx'⟩ := hL.el HLEN.out (j := 1) (by omega)
    injection heq with heq
    injection heq with heq1 heq2
    subst heq1 heq2
    simp only [Nat.zero_mul, Nat.add_zero, Nat.one_mul] at e0 e1 e2 e3 e4 f0 f1 f2 f3 f4
    have hg2 := hg.2
    have HK : Hid (∀ W : World, (∀ k, k < w1.heap.size → W.heap[k]? = w1.heap[k]?) → (W.cell? ⟨g, o, none⟩ = some (.int .i64 (at0 vs 0).kind) ∧ W.cell? ⟨g, o + 1, none⟩ = some (.int .u64 (at0 vs 0).num) ∧ W.cell? ⟨g, o + 2, none⟩ = some (.slice p1 (at0 vs 0).bytes.length pc1) ∧ W.cell? ⟨g, o + 3, none⟩ = some (.float .f64 (at0 vs 0).real) ∧ W.cell? ⟨g, o + 4, none⟩ = some (.slice p2 (at0 vs 0).list.length pc2)) ∧ (W.cell? ⟨g, o + 5, none⟩ = some (.int .i64 (at0 vs 1).kind) ∧ W.cell? ⟨g, o + 5 + 1, none⟩ = some (.int .u64 (at0 vs 1).num) ∧ W.cell? ⟨g, o + 5 + 2, none⟩ = some (.slice q1 (at0 vs 1).bytes.length qc1) ∧ W.cell? ⟨g, o + 5 + 3, none⟩ = some (.float .f64 (at0 vs 1).real) ∧ W.cell? ⟨g, o + 5 + 4, none⟩ = some (.slice q2 (at0 vs 1).list.length qc2))) := Lib.hid (fun W hW => by
      have hq : ∀ j, W.cell? ⟨g, j, none⟩ = w1.cell? ⟨g, j, none⟩ := fun j => World.cell?_of_block (w := w1) (hW g hg2)
      simp only [hq]
      exact ⟨⟨e0, e1, e2, e3, e4⟩, f0, f1, f2, f3, f4⟩)
    have HT : Hid (∀ W : World, Below w1.heap.size w1 W → Calls Tryd.prog 57 #[.agg #[.int .i64 (at0 vs 0).kind, .int .u64 (at0 vs 0).num, .slice p1 (at0 vs 0).bytes.length pc1, .float .f64 (at0 vs 0).real, .slice p2 (at0 vs 0).list.length pc2]] W (GivesR (fun _ v X => v = .agg (bv X).toArray ∧ X.length = 32) W (nameR (at0 vs 0)))) :=
      Lib.hid (fun W hW => rname_id_any (fun k => k < w1.heap.size) 14 _ _ W (fun k hk => Nat.lt_of_lt_of_le hk hW.size) (hx.all _ hW.block))
    have HI : Hid (∀ W : World, Below w1.heap.size w1 W → Calls Tryd.prog 58 #[.agg #[.int .i64 (at0 vs 1).kind, .int .u64 (at0 vs 1).num, .slice q1 (at0 vs 1).bytes.length qc1, .float .f64 (at0 vs 1).real, .slice q2 (at0 vs 1).list.length qc2], .int .i64 8] W (GivesR (IdsV W) W (namesR 8 (at0 vs 1)))) :=
      Lib.hid (fun W hW => rnames_any (fun k => k < w1.heap.size) 13 8 _ _ W (fun k hk => Nat.lt_of_lt_of_le hk hW.size) (hx'.all _ hW.block))
    have HBc : Hid (Below w1.heap.size w1 w1.drew) := Lib.hid (drewn _ w1 1)
    have HG : Hid (g < w1.heap.size) := Lib.hid hg2
    have HE : Hid (comL vs = andR (nameR (at0 vs 0)) fun t => andR (namesR 8 (at0 vs 1)) fun ps => if riseB ps = false then .error 92 else
      andR (stampR (at0 vs 2)) fun s => andR (textR 64 (at0 vs 3)) fun a => andR (textR 1024 (at0 vs 4)) fun n => .ok ⟨t, ps, s, a, n⟩) := Lib.hid rfl
    have HNM : Hid (∀ l, namesR 8 (at0 vs 1) = .ok l → l.length ≤ 8) := Lib.hid (fun l h => (namesR_ok h).2.2.1)
    clear e0 e1 e2 e3 e4 f0 f1 f2 f3 f4 hx hx' hcm hg hg2 hb1 hL
    generalize nameR (at0 vs 0) = rt at *
    generalize namesR 8 (at0 vs 1) = ri at *
    cases rt with
    | error c =>
      go_wp2_with fail
      refine wp_region_held_drew (S := (fun W => (W.cell? ⟨g, o, none⟩ = some (.int .i64 (at0 vs 0).kind) ∧ W.cell? ⟨g, o + 1, none⟩ = some (.int .u64 (at0 vs 0).num) ∧ W.cell? ⟨g, o + 2, none⟩ = some (.slice p1 (at0 vs 0).bytes.length pc1) ∧ W.cell? ⟨g, o + 3, none⟩ = some (.float .f64 (at0 vs 0).real) ∧ W.cell? ⟨g, o + 4, none⟩ = some (.slice p2 (at0 vs 0).list.length pc2)) ∧ (W.cell? ⟨g, o + 5, none⟩ = some (.int .i64 (at0 vs 1).kind) ∧ W.cell? ⟨g, o + 5 + 1, none⟩ = some (.int .u64 (at0 vs 1).num) ∧ W.cell? ⟨g, o + 5 + 2, none⟩ = some (.slice q1 (at0 vs 1).bytes.length qc1) ∧ W.cell? ⟨g, o + 5 + 3, none⟩ = some (.float .f64 (at0 vs 1).real) ∧ W.cell? ⟨g, o + 5 + 4, none⟩ = some (.slice q2 (at0 vs 1).list.length qc2)))) (by kernel_rfl) (by exact HK.out _ (fun _ _ => rfl)) (fun hHeld => ?_)
      refine wpAnyH_take (i := 0) (oi := ⟨_, _, _, _, _, _⟩) (v := ?_) rfl (by kernel_rfl) (by kernel_rfl) (by kernel_rfl) (fun _ _ _ h => h) (Or.inl ⟨by rfl, ?_⟩) (by assumption) ?_
      rotate_left
      · intro w hSw; (try dsimp only at hSw); first | (go_simp; done) | (go_simp; with_reducible rfl)
      try simp only [Act.put, List.setIfInBounds_toArray, List.set_cons_zero, List.set_cons_succ]
      refine wpAnyH_take (i := 1) (oi := ⟨_, _, _, _, _, _⟩) (v := ?_) rfl (by kernel_rfl) (by kernel_rfl) (by kernel_rfl) (fun _ _ _ h => h) (Or.inl ⟨by rfl, ?_⟩) (by assumption) ?_
      rotate_left
      · intro w hSw; (try dsimp only at hSw); first | (go_simp; done) | (go_simp; with_reducible rfl)
      try simp only [Act.put, List.setIfInBounds_toArray, List.set_cons_zero, List.set_cons_succ]
      refine wpAnyH_take (i := 2) (oi := ⟨_, _, _, _, _, _⟩) (v := ?_) rfl (by kernel_rfl) (by kernel_rfl) (by kernel_rfl) (fun _ _ _ h => h) (Or.inl ⟨by rfl, ?_⟩) (by assumption) ?_
      rotate_left
      · intro w hSw; (try dsimp only at hSw); first | (go_simp; done) | (go_simp; with_reducible rfl)
      try simp only [Act.put, List.setIfInBounds_toArray, List.set_cons_zero, List.set_cons_succ]
      refine wpAnyH_take (i := 4) (oi := ⟨_, _, _, _, _, _⟩) (v := ?_) rfl (by kernel_rfl) (by kernel_rfl) (by kernel_rfl) (fun _ _ _ h => h) (Or.inl ⟨by rfl, ?_⟩) (by assumption) ?_
      rotate_left
      · intro w hSw; (try dsimp only at hSw); first | (go_simp; done) | (go_simp; with_reducible rfl)
      try simp only [Act.put, List.setIfInBounds_toArray, List.set_cons_zero, List.set_cons_succ]
      refine wpAnyH_take (i := 5) (oi := ⟨_, _, _, _, _, _⟩) (v := ?_) rfl (by kernel_rfl) (by kernel_rfl) (by kernel_rfl) (fun _ _ _ h => h) (Or.inl ⟨by rfl, ?_⟩) (by assumption) ?_
      rotate_left
      · intro w hSw; (try dsimp only at hSw); first | (go_simp; done) | (go_simp; with_reducible rfl)
      try simp only [Act.put, List.setIfInBounds_toArray, List.set_cons_zero, List.set_cons_succ]
      refine wpAnyH_take (i := 6) (oi := ⟨_, _, _, _, _, _⟩) (v := ?_) rfl (by kernel_rfl) (by kernel_rfl) (by kernel_rfl) (fun _ _ _ h => h) (Or.inl ⟨by rfl, ?_⟩) (by assumption) ?_
      rotate_left
      · intro w hSw; (try dsimp only at hSw); first | (go_simp; done) | (go_simp; with_reducible rfl)
      try simp only [Act.put, List.setIfInBounds_toArray, List.set_cons_zero, List.set_cons_succ]
      refine wpAnyH_ready (rs := [3, 9]) (by kernel_rfl) (by simp) ?_
      refine AllReadyH.cons (o := ⟨_, _, _, _, _, _⟩) rfl (fun K hK => ?_) (AllReadyH.cons (o := ⟨_, _, _, _, _, _⟩) rfl (fun K hK => ?_) AllReadyH.nil)
      · go_simp
        refine (HT.out _ HBc.out).mono ?_
        rintro e w9 ⟨rfl, hb9⟩
        refine ⟨rfl, ?_⟩
        rw [HE.out]
        exact ⟨rfl, HB1.out.trans ((HBc.out.trans (hb9.mono HBc.out.size)).mono HB1.out.size)⟩
      · go_simp
        refine any_stepC (fun wa hN => ?_)
        have HA : Hid (RF wa w1.heap.size 40 n36 (comF zeros none 0 0 0 [] [])) := Lib.hid (by rw [hN]; first | exact RF.new _ _ _ _ | exact (RF.new _ _ _ _).kept rfl)
        have HZQ : Hid (w1.heap.size ≤ w1.heap.size) := Lib.hid HBc.out.size
        have HBc : Hid (Below w1.heap.size w1 wa) := Lib.hid (by rw [hN]; first | exact HBc.out.alloc HBc.out.size _ | exact (HBc.out.alloc HBc.out.size _).drew)
        clear hN
        try go_wp2_with fail
        refine hK.out _ _ (by exact HK.out _ (fun k hk => HBc.out.block k hk)) (fun hHeld => ?_)
        clear hK K
        try simp only [Act.put, List.setIfInBounds_toArray, List.set_cons_zero, List.set_cons_succ]
        refine wpAnyH_ready (rs := [3]) (by kernel_rfl) (by simp) ?_
        refine AllReadyH.cons (o := ⟨_, _, _, _, _, _⟩) rfl (fun K hK => ?_) AllReadyH.nil
        go_simp
        refine (HT.out _ HBc.out).mono ?_
        rintro e w9 ⟨rfl, hb9⟩
        refine ⟨rfl, ?_⟩
        rw [HE.out]
        exact ⟨rfl, HB1.out.trans ((HBc.out.trans (hb9.mono HBc.out.size)).mono HB1.out.size)⟩
    | ok X =>
      cases ri with
      | error c =>
        go_wp2_with fail
        refine wp_region_held_drew (S := (fun W => (W.cell? ⟨g, o, none⟩ = some (.int .i64 (at0 vs 0).kind) ∧ W.cell? ⟨g, o + 1, none⟩ = some (.int .u64 (at0 vs 0).num) ∧ W.cell? ⟨g, o + 2, none⟩ = some (.slice p1 (at0 vs 0).bytes.length pc1) ∧ W.cell? ⟨g, o + 3, none⟩ = some (.float .f64 (at0 vs 0).real) ∧ W.cell? ⟨g, o + 4, none⟩ = some (.slice p2 (at0 vs 0).list.length pc2)) ∧ (W.cell? ⟨g, o + 5, none⟩ = some (.int .i64 (at0 vs 1).kind) ∧ W.cell? ⟨g, o + 5 + 1, none⟩ = some (.int .u64 (at0 vs 1).num) ∧ W.cell? ⟨g, o + 5 + 2, none⟩ = some (.slice q1 (at0 vs 1).bytes.length qc1) ∧ W.cell? ⟨g, o + 5 + 3, none⟩ = some (.float .f64 (at0 vs 1).real) ∧ W.cell? ⟨g, o + 5 + 4, none⟩ = some (.slice q2 (at0 vs 1).list.length qc2)))) (by kernel_rfl) (by exact HK.out _ (fun _ _ => rfl)) (fun hHeld => ?_)
        refine wpAnyH_take (i := 0) (oi := ⟨_, _, _, _, _, _⟩) (v := ?_) rfl (by kernel_rfl) (by kernel_rfl) (by kernel_rfl) (fun _ _ _ h => h) (Or.inl ⟨by rfl, ?_⟩) (by assumption) ?_
        rotate_left
        · intro w hSw; (try dsimp only at hSw); first | (go_simp; done) | (go_simp; with_reducible rfl)
        try simp only [Act.put, List.setIfInBounds_toArray, List.set_cons_zero, List.set_cons_succ]
        refine wpAnyH_take (i := 1) (oi := ⟨_, _, _, _, _, _⟩) (v := ?_) rfl (by kernel_rfl) (by kernel_rfl) (by kernel_rfl) (fun _ _ _ h => h) (Or.inl ⟨by rfl, ?_⟩) (by assumption) ?_
        rotate_left
        · intro w hSw; (try dsimp only at hSw); first | (go_simp; done) | (go_simp; with_reducible rfl)
        try simp only [Act.put, List.setIfInBounds_toArray, List.set_cons_zero, List.set_cons_succ]
        refine wpAnyH_take (i := 2) (oi := ⟨_, _, _, _, _, _⟩) (v := ?_) rfl (by kernel_rfl) (by kernel_rfl) (by kernel_rfl) (fun _ _ _ h => h) (Or.inl ⟨by rfl, ?_⟩) (by assumption) ?_
        rotate_left
        · intro w hSw; (try dsimp only at hSw); first | (go_simp; done) | (go_simp; with_reducible rfl)
        try simp only [Act.put, List.setIfInBounds_toArray, List.set_cons_zero, List.set_cons_succ]
        refine wpAnyH_take (i := 4) (oi := ⟨_, _, _, _, _, _⟩) (v := ?_) rfl (by kernel_rfl) (by kernel_rfl) (by kernel_rfl) (fun _ _ _ h => h) (Or.inl ⟨by rfl, ?_⟩) (by assumption) ?_
        rotate_left
        · intro w hSw; (try dsimp only at hSw); first | (go_simp; done) | (go_simp; with_reducible rfl)
        try simp only [Act.put, List.setIfInBounds_toArray, List.set_cons_zero, List.set_cons_succ]
        refine wpAnyH_take (i := 5) (oi := ⟨_, _, _, _, _, _⟩) (v := ?_) rfl (by kernel_rfl) (by kernel_rfl) (by kernel_rfl) (fun _ _ _ h => h) (Or.inl ⟨by rfl, ?_⟩) (by assumption) ?_
        rotate_left
        · intro w hSw; (try dsimp only at hSw); first | (go_simp; done) | (go_simp; with_reducible rfl)
        try simp only [Act.put, List.setIfInBounds_toArray, List.set_cons_zero, List.set_cons_succ]
        refine wpAnyH_take (i := 6) (oi := ⟨_, _, _, _, _, _⟩) (v := ?_) rfl (by kernel_rfl) (by kernel_rfl) (by kernel_rfl) (fun _ _ _ h => h) (Or.inl ⟨by rfl, ?_⟩) (by assumption) ?_
        rotate_left
        · intro w hSw; (try dsimp only at hSw); first | (go_simp; done) | (go_simp; with_reducible rfl)
        try simp only [Act.put, List.setIfInBounds_toArray, List.set_cons_zero, List.set_cons_succ]
        refine wpAnyH_ready (rs := [3, 9]) (by kernel_rfl) (by simp) ?_
        refine AllReadyH.cons (o := ⟨_, _, _, _, _, _⟩) rfl (fun K hK => ?_) (AllReadyH.cons (o := ⟨_, _, _, _, _, _⟩) rfl (fun K hK => ?_) AllReadyH.nil)
        · go_simp
          refine (HT.out _ HBc.out).mono ?_
          rintro e w2 ⟨vv, rfl, ⟨rfl, hX⟩, hb2⟩
          have HX := Lib.hid hX
          have HBc : Hid (Below w1.heap.size w1 w2) := Lib.hid (HBc.out.trans (hb2.mono HBc.out.size))
          clear hb2 hX
          try go_wp2_with fail
          refine hK.out _ _ (by exact HK.out _ (fun k hk => HBc.out.block k hk)) (fun hHeld => ?_)
          clear hK K
          try simp only [Act.put, List.setIfInBounds_toArray, List.set_cons_zero, List.set_cons_succ]
          refine wpAnyH_ready (rs := [7, 9]) (by kernel_rfl) (by simp) ?_
          refine AllReadyH.cons (o := ⟨_, _, _, _, _, _⟩) rfl (fun K hK => ?_) (AllReadyH.cons (o := ⟨_, _, _, _, _, _⟩) rfl (fun K hK => ?_) AllReadyH.nil)
          · go_simp
            refine (HI.out _ HBc.out).mono ?_
            rintro e w9 ⟨rfl, hb9⟩
            refine ⟨rfl, ?_⟩
            rw [HE.out]
            exact ⟨rfl, HB1.out.trans ((HBc.out.trans (hb9.mono HBc.out.size)).mono HB1.out.size)⟩
          · go_simp
            refine any_stepC (fun wa hN => ?_)
            have HA : Hid (RF wa w2.heap.size 40 n36 (comF zeros none 0 0 0 [] [])) := Lib.hid (by rw [hN]; first | exact RF.new _ _ _ _ | exact (RF.new _ _ _ _).kept rfl)
            have HZQ : Hid (w1.heap.size ≤ w2.heap.size) := Lib.hid HBc.out.size
            have HBc : Hid (Below w1.heap.size w1 wa) := Lib.hid (by rw [hN]; first | exact HBc.out.alloc HBc.out.size _ | exact (HBc.out.alloc HBc.out.size _).drew)
            clear hN
            try go_wp2_with fail
            refine hK.out _ _ (by exact HK.out _ (fun k hk => HBc.out.block k hk)) (fun hHeld => ?_)
            clear hK K
            try simp only [Act.put, List.setIfInBounds_toArray, List.set_cons_zero, List.set_cons_succ]
            refine wpAnyH_ready (rs := [7]) (by kernel_rfl) (by simp) ?_
            refine AllReadyH.cons (o := ⟨_, _, _, _, _, _⟩) rfl (fun K hK => ?_) AllReadyH.nil
            go_simp
            refine (HI.out _ HBc.out).mono ?_
            rintro e w9 ⟨rfl, hb9⟩
            refine ⟨rfl, ?_⟩
            rw [HE.out]
            exact ⟨rfl, HB1.out.trans ((HBc.out.trans (hb9.mono HBc.out.size)).mono HB1.out.size)⟩
        · go_simp
          refine any_stepC (fun wa hN => ?_)
          have HA : Hid (RF wa w1.heap.size 40 n36 (comF zeros none 0 0 0 [] [])) := Lib.hid (by rw [hN]; first | exact RF.new _ _ _ _ | exact (RF.new _ _ _ _).kept rfl)
          have HZQ : Hid (w1.heap.size ≤ w1.heap.size) := Lib.hid HBc.out.size
          have HBc : Hid (Below w1.heap.size w1 wa) := Lib.hid (by rw [hN]; first | exact HBc.out.alloc HBc.out.size _ | exact (HBc.out.alloc HBc.out.size _).drew)
          clear hN
          try go_wp2_with fail
          refine hK.out _ _ (by exact HK.out _ (fun k hk => HBc.out.block k hk)) (fun hHeld => ?_)
          clear hK K
          try simp only [Act.put, List.setIfInBounds_toArray, List.set_cons_zero, List.set_cons_succ]
          refine wpAnyH_ready (rs := [3]) (by kernel_rfl) (by simp) ?_
          refine AllReadyH.cons (o := ⟨_, _, _, _, _, _⟩) rfl (fun K hK => ?_) AllReadyH.nil
          go_simp
          refine (HT.out _ HBc.out).mono ?_
          rintro e w2 ⟨vv, rfl, ⟨rfl, hX⟩, hb2⟩
          have HX := Lib.hid hX
          have HBc : Hid (Below w1.heap.size w1 w2) := Lib.hid (HBc.out.trans (hb2.mono HBc.out.size))
          have HA := Lib.hid (HA.out.kept (hb2.block _ HA.out.lt))
          clear hb2 hX
          try go_wp2_with fail
          refine hK.out _ _ (by exact HK.out _ (fun k hk => HBc.out.block k hk)) (fun hHeld => ?_)
          clear hK K
          try simp only [Act.put, List.setIfInBounds_toArray, List.set_cons_zero, List.set_cons_succ]
          refine wpAnyH_ready (rs := [7]) (by kernel_rfl) (by simp) ?_
          refine AllReadyH.cons (o := ⟨_, _, _, _, _, _⟩) rfl (fun K hK => ?_) AllReadyH.nil
          go_simp
          refine (HI.out _ HBc.out).mono ?_
          rintro e w9 ⟨rfl, hb9⟩
          refine ⟨rfl, ?_⟩
          rw [HE.out]
          exact ⟨rfl, HB1.out.trans ((HBc.out.trans (hb9.mono HBc.out.size)).mono HB1.out.size)⟩
      | ok ids =>
        go_upto_region 2 with fail
        go_cut [4] (fun s4 wx => ∃ (nb : Nat) (ia : Option Addr) (ic : Nat), s4 = .pointer (some ⟨nb, 0, none⟩) ∧ Hid (RF wx nb 40 n36 (comF X ia ids.length ic 0 [] [])) ∧ Hid (IdsV w1 wx (.slice ia ids.length ic) ids) ∧ Hid (Below w1.heap.size w1 wx) ∧ Hid (w1.heap.size ≤ nb) ∧ Hid (∀ q, IdsRow (.slice ia ids.length ic) q → q ≠ nb) ∧ Hid (X.length = 32))
        · refine wp_region_held_drew (S := (fun W => (W.cell? ⟨g, o, none⟩ = some (.int .i64 (at0 vs 0).kind) ∧ W.cell? ⟨g, o + 1, none⟩ = some (.int .u64 (at0 vs 0).num) ∧ W.cell? ⟨g, o + 2, none⟩ = some (.slice p1 (at0 vs 0).bytes.length pc1) ∧ W.cell? ⟨g, o + 3, none⟩ = some (.float .f64 (at0 vs 0).real) ∧ W.cell? ⟨g, o + 4, none⟩ = some (.slice p2 (at0 vs 0).list.length pc2)) ∧ (W.cell? ⟨g, o + 5, none⟩ = some (.int .i64 (at0 vs 1).kind) ∧ W.cell? ⟨g, o + 5 + 1, none⟩ = some (.int .u64 (at0 vs 1).num) ∧ W.cell? ⟨g, o + 5 + 2, none⟩ = some (.slice q1 (at0 vs 1).bytes.length qc1) ∧ W.cell? ⟨g, o + 5 + 3, none⟩ = some (.float .f64 (at0 vs 1).real) ∧ W.cell? ⟨g, o + 5 + 4, none⟩ = some (.slice q2 (at0 vs 1).list.length qc2)))) (by kernel_rfl) (by exact HK.out _ (fun _ _ => rfl)) (fun hHeld => ?_)
          refine wpAnyH_take (i := 0) (oi := ⟨_, _, _, _, _, _⟩) (v := ?_) rfl (by kernel_rfl) (by kernel_rfl) (by kernel_rfl) (fun _ _ _ h => h) (Or.inl ⟨by rfl, ?_⟩) (by assumption) ?_
          rotate_left
          · intro w hSw; (try dsimp only at hSw); first | (go_simp; done) | (go_simp; with_reducible rfl)
          try simp only [Act.put, List.setIfInBounds_toArray, List.set_cons_zero, List.set_cons_succ]
          refine wpAnyH_take (i := 1) (oi := ⟨_, _, _, _, _, _⟩) (v := ?_) rfl (by kernel_rfl) (by kernel_rfl) (by kernel_rfl) (fun _ _ _ h => h) (Or.inl ⟨by rfl, ?_⟩) (by assumption) ?_
          rotate_left
          · intro w hSw; (try dsimp only at hSw); first | (go_simp; done) | (go_simp; with_reducible rfl)
          try simp only [Act.put, List.setIfInBounds_toArray, List.set_cons_zero, List.set_cons_succ]
          refine wpAnyH_take (i := 2) (oi := ⟨_, _, _, _, _, _⟩) (v := ?_) rfl (by kernel_rfl) (by kernel_rfl) (by kernel_rfl) (fun _ _ _ h => h) (Or.inl ⟨by rfl, ?_⟩) (by assumption) ?_
          rotate_left
          · intro w hSw; (try dsimp only at hSw); first | (go_simp; done) | (go_simp; with_reducible rfl)
          try simp only [Act.put, List.setIfInBounds_toArray, List.set_cons_zero, List.set_cons_succ]
          refine wpAnyH_take (i := 4) (oi := ⟨_, _, _, _, _, _⟩) (v := ?_) rfl (by kernel_rfl) (by kernel_rfl) (by kernel_rfl) (fun _ _ _ h => h) (Or.inl ⟨by rfl, ?_⟩) (by assumption) ?_
          rotate_left
          · intro w hSw; (try dsimp only at hSw); first | (go_simp; done) | (go_simp; with_reducible rfl)
          try simp only [Act.put, List.setIfInBounds_toArray, List.set_cons_zero, List.set_cons_succ]
          refine wpAnyH_take (i := 5) (oi := ⟨_, _, _, _, _, _⟩) (v := ?_) rfl (by kernel_rfl) (by kernel_rfl) (by kernel_rfl) (fun _ _ _ h => h) (Or.inl ⟨by rfl, ?_⟩) (by assumption) ?_
          rotate_left
          · intro w hSw; (try dsimp only at hSw); first | (go_simp; done) | (go_simp; with_reducible rfl)
          try simp only [Act.put, List.setIfInBounds_toArray, List.set_cons_zero, List.set_cons_succ]
          refine wpAnyH_take (i := 6) (oi := ⟨_, _, _, _, _, _⟩) (v := ?_) rfl (by kernel_rfl) (by kernel_rfl) (by kernel_rfl) (fun _ _ _ h => h) (Or.inl ⟨by rfl, ?_⟩) (by assumption) ?_
          rotate_left
          · intro w hSw; (try dsimp only at hSw); first | (go_simp; done) | (go_simp; with_reducible rfl)
          try simp only [Act.put, List.setIfInBounds_toArray, List.set_cons_zero, List.set_cons_succ]
          refine wpAnyH_ready (rs := [3, 9]) (by kernel_rfl) (by simp) ?_
          refine AllReadyH.cons (o := ⟨_, _, _, _, _, _⟩) rfl (fun K hK => ?_) (AllReadyH.cons (o := ⟨_, _, _, _, _, _⟩) rfl (fun K hK => ?_) AllReadyH.nil)
          · go_simp
            refine (HT.out _ HBc.out).mono ?_
            rintro e w2 ⟨vv, rfl, ⟨rfl, hX⟩, hb2⟩
            have HX := Lib.hid hX
            have HBc : Hid (Below w1.heap.size w1 w2) := Lib.hid (HBc.out.trans (hb2.mono HBc.out.size))
            clear hb2 hX
            try go_wp2_with fail
            refine hK.out _ _ (by exact HK.out _ (fun k hk => HBc.out.block k hk)) (fun hHeld => ?_)
            clear hK K
            try simp only [Act.put, List.setIfInBounds_toArray, List.set_cons_zero, List.set_cons_succ]
            refine wpAnyH_ready (rs := [7, 9]) (by kernel_rfl) (by simp) ?_
            refine AllReadyH.cons (o := ⟨_, _, _, _, _, _⟩) rfl (fun K hK => ?_) (AllReadyH.cons (o := ⟨_, _, _, _, _, _⟩) rfl (fun K hK => ?_) AllReadyH.nil)
            · go_simp
              have hzc := HBc.out.size
              refine (HI.out _ HBc.out).mono ?_
              rintro e w3 ⟨vv, rfl, hI3, hb3⟩
              obtain ⟨ia, ic, rfl⟩ := row_shape_any hI3.1
              have HI3 : Hid (IdsV w1 w3 (.slice ia ids.length ic) ids) := Lib.hid ⟨own_base hI3.1 hzc, hI3.2⟩
              have HBc : Hid (Below w1.heap.size w1 w3) := Lib.hid (HBc.out.trans (hb3.mono HBc.out.size))
              clear hb3 hI3 hzc
              try go_wp2_with fail
              refine hK.out _ _ (by exact HK.out _ (fun k hk => HBc.out.block k hk)) (fun hHeld => ?_)
              clear hK K
              try simp only [Act.put, List.setIfInBounds_toArray, List.set_cons_zero, List.set_cons_succ]
              have hX2 := HX.out
              have zx : (bv X).length = n32 := by rw [bv_len, hX2]; rfl
              have hne := com_ne
              have hlt5 := com_lt
              have hfo := com_fill ia ids.length ic X hX2
              have hfs := com_fsize X hX2
              refine wpAnyH_take (i := 8) (oi := ⟨_, _, _, _, _, _⟩) (v := ?_) rfl (by kernel_rfl) (by kernel_rfl) (by kernel_rfl) (fun _ _ _ h => h) (Or.inl ⟨by rfl, ?_⟩) (by assumption) ?_
              rotate_left
              · intro w hSw; (try dsimp only at hSw); first | (go_simp; done) | (go_simp; with_reducible rfl)
              try simp only [Act.put, List.setIfInBounds_toArray, List.set_cons_zero, List.set_cons_succ]
              clear zx hne hlt5 hX2 hfo hfs
              refine wpAnyH_ready (rs := [9]) (by kernel_rfl) (by simp) ?_
              refine AllReadyH.cons (o := ⟨_, _, _, _, _, _⟩) rfl (fun K hK => ?_) AllReadyH.nil
              go_simp
              refine any_stepC (fun wa hN => ?_)
              have HA : Hid (RF wa w3.heap.size 40 n36 (comF zeros none 0 0 0 [] [])) := Lib.hid (by rw [hN]; first | exact RF.new _ _ _ _ | exact (RF.new _ _ _ _).kept rfl)
              have HZQ : Hid (w1.heap.size ≤ w3.heap.size) := Lib.hid HBc.out.size
              have HNN : Hid (∀ q, IdsRow (.slice ia ids.length ic) q → q ≠ w3.heap.size) := Lib.hid (fun q hq => by have h1 := (World.ownsRow.lt HI3.out.1 q hq).2; omega)
              have HI3 : Hid (IdsV w1 wa (.slice ia ids.length ic) ids) := Lib.hid (by rw [hN]; exact ⟨row_kept HI3.out.1 (fun q hq => Below.heap_alloc _ _ _ (World.ownsRow.lt HI3.out.1 q hq).2), HI3.out.2⟩)
              have HBc : Hid (Below w1.heap.size w1 wa) := Lib.hid (by rw [hN]; first | exact HBc.out.alloc HBc.out.size _ | exact (HBc.out.alloc HBc.out.size _).drew)
              clear hN
              try go_wp2_with fail
              refine hK.out _ _ (by exact HK.out _ (fun k hk => HBc.out.block k hk)) (fun hHeld => ?_)
              clear hK K
              try simp only [Act.put, List.setIfInBounds_toArray, List.set_cons_zero, List.set_cons_succ]
              have hst5 := HA.out.write (com_one X ia ids.length ic 0 [] [] n36)
              have hol5 := rowL_len n36 (comF X ia ids.length ic 0 [] [])
              refine wpAnyH_ready (rs := [10]) (by kernel_rfl) (by simp) ?_
              refine AllReadyH.cons (o := ⟨_, _, _, _, _, _⟩) rfl (fun K hK => ?_) AllReadyH.nil
              go_simp
              refine any_stepC (fun w5 hN => ?_)
              have HA : Hid (RF w5 w3.heap.size 40 n36 (comF X ia ids.length ic 0 [] [])) := Lib.hid (by rw [hN]; exact HA.out.put _)
              have hqn : ∀ q, IdsRow (.slice ia ids.length ic) q → q ≠ w3.heap.size := fun q hq => by have h1 := HI3.out.1; exact HNN.out q hq
              have HI3 : Hid (IdsV w1 w5 (.slice ia ids.length ic) ids) := Lib.hid (by rw [hN]; exact ⟨row_kept HI3.out.1 (fun q hq => setRow_other _ _ _ _ (hqn q hq)), HI3.out.2⟩)
              have HBc : Hid (Below w1.heap.size w1 w5) := Lib.hid (by rw [hN]; exact below_setRow HBc.out HZQ.out _)
              clear hN hst5 hol5 hqn
              try go_wp2_with fail
              refine hK.out _ _ (by exact HK.out _ (fun k hk => HBc.out.block k hk)) (fun hHeld => ?_)
              clear hK K
              try simp only [Act.put, List.setIfInBounds_toArray, List.set_cons_zero, List.set_cons_succ]
              refine wpAnyH_done (by kernel_rfl) ?_ _
              clear hHeld
              go_wp2_with fail
              go_meet
              exact ⟨w3.heap.size, _, _, rfl, HA, HI3, HBc, HZQ, HNN, HX⟩
            · go_simp
              refine any_stepC (fun wa hN => ?_)
              have HA : Hid (RF wa w2.heap.size 40 n36 (comF zeros none 0 0 0 [] [])) := Lib.hid (by rw [hN]; first | exact RF.new _ _ _ _ | exact (RF.new _ _ _ _).kept rfl)
              have HZQ : Hid (w1.heap.size ≤ w2.heap.size) := Lib.hid HBc.out.size
              have HBc : Hid (Below w1.heap.size w1 wa) := Lib.hid (by rw [hN]; first | exact HBc.out.alloc HBc.out.size _ | exact (HBc.out.alloc HBc.out.size _).drew)
              clear hN
              try go_wp2_with fail
              refine hK.out _ _ (by exact HK.out _ (fun k hk => HBc.out.block k hk)) (fun hHeld => ?_)
              clear hK K
              try simp only [Act.put, List.setIfInBounds_toArray, List.set_cons_zero, List.set_cons_succ]
              refine wpAnyH_ready (rs := [7]) (by kernel_rfl) (by simp) ?_
              refine AllReadyH.cons (o := ⟨_, _, _, _, _, _⟩) rfl (fun K hK => ?_) AllReadyH.nil
              go_simp
              have hzn := HA.out.lt
              have hzc := HBc.out.size
              refine (HI.out _ HBc.out).mono ?_
              rintro e w3 ⟨vv, rfl, hI3, hb3⟩
              obtain ⟨ia, ic, rfl⟩ := row_shape_any hI3.1
              have HNN : Hid (∀ q, IdsRow (.slice ia ids.length ic) q → q ≠ w2.heap.size) := Lib.hid (fun q hq => by have h1 := (World.ownsRow.lt hI3.1 q hq).1; omega)
              have HI3 : Hid (IdsV w1 w3 (.slice ia ids.length ic) ids) := Lib.hid ⟨own_base hI3.1 hzc, hI3.2⟩
              have HBc : Hid (Below w1.heap.size w1 w3) := Lib.hid (HBc.out.trans (hb3.mono HBc.out.size))
              have HA := Lib.hid (HA.out.kept (hb3.block _ HA.out.lt))
              clear hb3 hI3 hzc
              clear hzn
              try go_wp2_with fail
              refine hK.out _ _ (by exact HK.out _ (fun k hk => HBc.out.block k hk)) (fun hHeld => ?_)
              clear hK K
              try simp only [Act.put, List.setIfInBounds_toArray, List.set_cons_zero, List.set_cons_succ]
              have hX2 := HX.out
              have zx : (bv X).length = n32 := by rw [bv_len, hX2]; rfl
              have hne := com_ne
              have hlt5 := com_lt
              have hfo := com_fill ia ids.length ic X hX2
              have hfs := com_fsize X hX2
              refine wpAnyH_take (i := 8) (oi := ⟨_, _, _, _, _, _⟩) (v := ?_) rfl (by kernel_rfl) (by kernel_rfl) (by kernel_rfl) (fun _ _ _ h => h) (Or.inl ⟨by rfl, ?_⟩) (by assumption) ?_
              rotate_left
              · intro w hSw; (try dsimp only at hSw); first | (go_simp; done) | (go_simp; with_reducible rfl)
              try simp only [Act.put, List.setIfInBounds_toArray, List.set_cons_zero, List.set_cons_succ]
              clear zx hne hlt5 hX2 hfo hfs
              have hst5 := HA.out.write (com_one X ia ids.length ic 0 [] [] n36)
              have hol5 := rowL_len n36 (comF X ia ids.length ic 0 [] [])
              refine wpAnyH_ready (rs := [10]) (by kernel_rfl) (by simp) ?_
              refine AllReadyH.cons (o := ⟨_, _, _, _, _, _⟩) rfl (fun K hK => ?_) AllReadyH.nil
              go_simp
              refine any_stepC (fun w5 hN => ?_)
              have HA : Hid (RF w5 w2.heap.size 40 n36 (comF X ia ids.length ic 0 [] [])) := Lib.hid (by rw [hN]; exact HA.out.put _)
              have hqn : ∀ q, IdsRow (.slice ia ids.length ic) q → q ≠ w2.heap.size := fun q hq => by have h1 := HI3.out.1; exact HNN.out q hq
              have HI3 : Hid (IdsV w1 w5 (.slice ia ids.length ic) ids) := Lib.hid (by rw [hN]; exact ⟨row_kept HI3.out.1 (fun q hq => setRow_other _ _ _ _ (hqn q hq)), HI3.out.2⟩)
              have HBc : Hid (Below w1.heap.size w1 w5) := Lib.hid (by rw [hN]; exact below_setRow HBc.out HZQ.out _)
              clear hN hst5 hol5 hqn
              try go_wp2_with fail
              refine hK.out _ _ (by exact HK.out _ (fun k hk => HBc.out.block k hk)) (fun hHeld => ?_)
              clear hK K
              try simp only [Act.put, List.setIfInBounds_toArray, List.set_cons_zero, List.set_cons_succ]
              refine wpAnyH_done (by kernel_rfl) ?_ _
              clear hHeld
              go_wp2_with fail
              go_meet
              exact ⟨w2.heap.size, _, _, rfl, HA, HI3, HBc, HZQ, HNN, HX⟩
          · go_simp
            refine any_stepC (fun wa hN => ?_)
            have HA : Hid (RF wa w1.heap.size 40 n36 (comF zeros none 0 0 0 [] [])) := Lib.hid (by rw [hN]; first | exact RF.new _ _ _ _ | exact (RF.new _ _ _ _).kept rfl)
            have HZQ : Hid (w1.heap.size ≤ w1.heap.size) := Lib.hid HBc.out.size
            have HBc : Hid (Below w1.heap.size w1 wa) := Lib.hid (by rw [hN]; first | exact HBc.out.alloc HBc.out.size _ | exact (HBc.out.alloc HBc.out.size _).drew)
            clear hN
            try go_wp2_with fail
            refine hK.out _ _ (by exact HK.out _ (fun k hk => HBc.out.block k hk)) (fun hHeld => ?_)
            clear hK K
            try simp only [Act.put, List.setIfInBounds_toArray, List.set_cons_zero, List.set_cons_succ]
            refine wpAnyH_ready (rs := [3]) (by kernel_rfl) (by simp) ?_
            refine AllReadyH.cons (o := ⟨_, _, _, _, _, _⟩) rfl (fun K hK => ?_) AllReadyH.nil
            go_simp
            refine (HT.out _ HBc.out).mono ?_
            rintro e w2 ⟨vv, rfl, ⟨rfl, hX⟩, hb2⟩
            have HX := Lib.hid hX
            have HBc : Hid (Below w1.heap.size w1 w2) := Lib.hid (HBc.out.trans (hb2.mono HBc.out.size))
            have HA := Lib.hid (HA.out.kept (hb2.block _ HA.out.lt))
            clear hb2 hX
            try go_wp2_with fail
            refine hK.out _ _ (by exact HK.out _ (fun k hk => HBc.out.block k hk)) (fun hHeld => ?_)
            clear hK K
            try simp only [Act.put, List.setIfInBounds_toArray, List.set_cons_zero, List.set_cons_succ]
            refine wpAnyH_ready (rs := [7]) (by kernel_rfl) (by simp) ?_
            refine AllReadyH.cons (o := ⟨_, _, _, _, _, _⟩) rfl (fun K hK => ?_) AllReadyH.nil
            go_simp
            have hzn := HA.out.lt
            have hzc := HBc.out.size
            refine (HI.out _ HBc.out).mono ?_
            rintro e w3 ⟨vv, rfl, hI3, hb3⟩
            obtain ⟨ia, ic, rfl⟩ := row_shape_any hI3.1
            have HNN : Hid (∀ q, IdsRow (.slice ia ids.length ic) q → q ≠ w1.heap.size) := Lib.hid (fun q hq => by have h1 := (World.ownsRow.lt hI3.1 q hq).1; omega)
            have HI3 : Hid (IdsV w1 w3 (.slice ia ids.length ic) ids) := Lib.hid ⟨own_base hI3.1 hzc, hI3.2⟩
            have HBc : Hid (Below w1.heap.size w1 w3) := Lib.hid (HBc.out.trans (hb3.mono HBc.out.size))
            have HA := Lib.hid (HA.out.kept (hb3.block _ HA.out.lt))
            clear hb3 hI3 hzc
            clear hzn
            try go_wp2_with fail
            refine hK.out _ _ (by exact HK.out _ (fun k hk => HBc.out.block k hk)) (fun hHeld => ?_)
            clear hK K
            try simp only [Act.put, List.setIfInBounds_toArray, List.set_cons_zero, List.set_cons_succ]
            have hX2 := HX.out
            have zx : (bv X).length = n32 := by rw [bv_len, hX2]; rfl
            have hne := com_ne
            have hlt5 := com_lt
            have hfo := com_fill ia ids.length ic X hX2
            have hfs := com_fsize X hX2
            refine wpAnyH_take (i := 8) (oi := ⟨_, _, _, _, _, _⟩) (v := ?_) rfl (by kernel_rfl) (by kernel_rfl) (by kernel_rfl) (fun _ _ _ h => h) (Or.inl ⟨by rfl, ?_⟩) (by assumption) ?_
            rotate_left
            · intro w hSw; (try dsimp only at hSw); first | (go_simp; done) | (go_simp; with_reducible rfl)
            try simp only [Act.put, List.setIfInBounds_toArray, List.set_cons_zero, List.set_cons_succ]
            clear zx hne hlt5 hX2 hfo hfs
            have hst5 := HA.out.write (com_one X ia ids.length ic 0 [] [] n36)
            have hol5 := rowL_len n36 (comF X ia ids.length ic 0 [] [])
            refine wpAnyH_ready (rs := [10]) (by kernel_rfl) (by simp) ?_
            refine AllReadyH.cons (o := ⟨_, _, _, _, _, _⟩) rfl (fun K hK => ?_) AllReadyH.nil
            go_simp
            refine any_stepC (fun w5 hN => ?_)
            have HA : Hid (RF w5 w1.heap.size 40 n36 (comF X ia ids.length ic 0 [] [])) := Lib.hid (by rw [hN]; exact HA.out.put _)
            have hqn : ∀ q, IdsRow (.slice ia ids.length ic) q → q ≠ w1.heap.size := fun q hq => by have h1 := HI3.out.1; exact HNN.out q hq
            have HI3 : Hid (IdsV w1 w5 (.slice ia ids.length ic) ids) := Lib.hid (by rw [hN]; exact ⟨row_kept HI3.out.1 (fun q hq => setRow_other _ _ _ _ (hqn q hq)), HI3.out.2⟩)
            have HBc : Hid (Below w1.heap.size w1 w5) := Lib.hid (by rw [hN]; exact below_setRow HBc.out HZQ.out _)
            clear hN hst5 hol5 hqn
            try go_wp2_with fail
            refine hK.out _ _ (by exact HK.out _ (fun k hk => HBc.out.block k hk)) (fun hHeld => ?_)
            clear hK K
            try simp only [Act.put, List.setIfInBounds_toArray, List.set_cons_zero, List.set_cons_succ]
            refine wpAnyH_done (by kernel_rfl) ?_ _
            clear hHeld
            go_wp2_with fail
            go_meet
            exact ⟨w1.heap.size, _, _, rfl, HA, HI3, HBc, HZQ, HNN, HX⟩
        case rest =>
          obtain ⟨nb, ia, ic, rfl, HA, HI3, HBc, HZQ, HNN, HX⟩ := hcut
          have hil := HNM.out _ rfl
          have hidc := own_ids HI3.out.1 HI3.out.2
          have HIC := Lib.hid (rise_any _ _ ids _ hidc (by omega))
          have HIL := Lib.hid hil
          have hc32 : wc.cell? ⟨nb, 32, none⟩ = some (.slice ia ids.length ic) := HA.out.cell (k := 32) (by unfold n36; omega)
          obtain ⟨rb, hrb⟩ : ∃ b, riseB ids = b := ⟨_, rfl⟩
          rw [hrb] at HIC
          have HE : Hid (comL vs = if rb = false then .error 92 else andR (stampR (at0 vs 2)) fun s => andR (textR 64 (at0 vs 3)) fun a => andR (textR 1024 (at0 vs 4)) fun n => .ok ⟨X, ids, s, a, n⟩) := Lib.hid (by rw [HE.out, ← hrb]; rfl)
          clear hidc hrb hil
          go_wp2_with fail
          refine HIC.out.mono ?_
          rintro e w6 ⟨rfl, n6, rfl⟩
          clear hc32
          have HA := Lib.hid (HA.out.kept (w' := wc.drewN n6) rfl)
          have HI3 : Hid (IdsV w1 (wc.drewN n6) (.slice ia ids.length ic) ids) := Lib.hid ⟨row_kept HI3.out.1 (fun _ _ => rfl), HI3.out.2⟩
          have HBc : Hid (Below w1.heap.size w1 (wc.drewN n6)) := Lib.hid (HBc.out.trans ((drewn _ wc n6).mono HBc.out.size))
          generalize wc.drewN n6 = w6 at *
          cases rb with
          | false =>
            have HE1 : Hid (comL vs = .error 92) := Lib.hid (by rw [HE.out]; rfl)
            go_wp2_with fail
            refine ⟨rfl, ?_⟩
            rw [HE1.out]
            exact ⟨rfl, HB1.out.trans (HBc.out.mono HB1.out.size)⟩
          | true =>
            obtain ⟨g2, o2, r1, rc1, r2, rc2, heq2, hg2, _, _, ⟨k0, k1, k2, k3, k4⟩, hx2⟩ := HL1.out.el HLEN.out (j := 2) (by omega)
            injection heq2 with heq2
            injection heq2 with heq21 heq22
            subst heq21 heq22
            simp only [show 2 * 5 = 10 from rfl] at k0 k1 k2 k3 k4
            have hq5 : ∀ j, w6.cell? ⟨g, j, none⟩ = w1.cell? ⟨g, j, none⟩ := fun j => World.cell?_of_block (w := w1) (HBc.out.block g HG.out)
            rw [← hq5] at k0 k1 k2 k3 k4
            clear hq5
            have HSt := Lib.hid (rstamp_any (fun k => k < w1.heap.size) 14 _ _ w6 (hx2.all _ HBc.out.block))
            have HE2 : Hid (comL vs = andR (stampR (at0 vs 2)) fun s => andR (textR 64 (at0 vs 3)) fun a => andR (textR 1024 (at0 vs 4)) fun n => .ok ⟨X, ids, s, a, n⟩) := Lib.hid (by rw [HE.out]; rfl)
            clear hx2 hg2
            generalize stampR (at0 vs 2) = rs at *
            go_wp2_with fail
            refine HSt.out.mono ?_
            intro e w7 h7
            cases rs with
            | error c =>
              obtain ⟨rfl, hb7⟩ := h7
              have HB7 := Lib.hid (HB1.out.trans ((HBc.out.trans (hb7.mono HBc.out.size)).mono HB1.out.size))
              clear hb7
              go_wp2_with fail
              refine ⟨rfl, ?_⟩
              rw [HE2.out]
              exact ⟨rfl, HB7.out⟩
            | ok s =>
              obtain ⟨vv, rfl, ⟨rfl, hs⟩, hb7⟩ := h7
              have HSs := Lib.hid hs
              have hA7 := HA.out.kept (hb7.block _ HA.out.lt)
              have c1 : w7.cell? ⟨nb, 33, none⟩ = some (.float .f64 0) := hA7.cell (k := 33) (by unfold n36; omega)
              have z1 : w7.frozen? ⟨nb, 33, none⟩ = false := hA7.free 33
              have HA : Hid (RF (w7.setCell ⟨nb, 33, none⟩ (.float .f64 s)) nb 40 n36 (comF X ia ids.length ic s [] [])) := Lib.hid ((hA7.set (k := 33) (by unfold n36; omega) (.float .f64 s)).congr (fun j _ => com_set33 _ _ _ _ _ _ _ _ j))
              have HI3 : Hid (IdsV w1 (w7.setCell ⟨nb, 33, none⟩ (.float .f64 s)) (.slice ia ids.length ic) ids) := Lib.hid ⟨row_kept HI3.out.1 (fun q hq => (Below.heap_setCell _ _ _ _ (by simpa using HNN.out q hq)).trans (hb7.block q (World.ownsRow.lt HI3.out.1 q hq).2)), HI3.out.2⟩
              have HBc : Hid (Below w1.heap.size w1 (w7.setCell ⟨nb, 33, none⟩ (.float .f64 s))) := Lib.hid ((HBc.out.trans (hb7.mono HBc.out.size)).setCell (p := ⟨nb, 33, none⟩) HZQ.out _)
              clear hb7 hs hA7 k0 k1 k2 k3 k4
              go_upto_region 6 with fail
              clear c1 z1
              generalize w7.setCell ⟨nb, 33, none⟩ (.float .f64 s) = w8 at *
              obtain ⟨g3, o3, s1, sc1, s2, sc2, heq3, hg3, _, _, ⟨k0, k1, k2, k3, k4⟩, hx3⟩ := HL1.out.el HLEN.out (j := 3) (by omega)
              injection heq3 with heq3
              injection heq3 with heq31 heq32
              subst heq31 heq32
              simp only [show 3 * 5 = 15 from rfl] at k0 k1 k2 k3 k4
              have hq5 : ∀ j, w8.cell? ⟨g, j, none⟩ = w1.cell? ⟨g, j, none⟩ := fun j => World.cell?_of_block (w := w1) (HBc.out.block g HG.out)
              rw [← hq5] at k0 k1 k2 k3 k4
              clear hq5
              have HTx := Lib.hid (rtext_any (fun k => k < w1.heap.size) 14 64 _ _ w8 (fun k hk => Nat.lt_of_lt_of_le hk HBc.out.size) (hx3.all _ HBc.out.block))
              have HE3 : Hid (comL vs = andR (textR 64 (at0 vs 3)) fun a => andR (textR 1024 (at0 vs 4)) fun n => .ok ⟨X, ids, s, a, n⟩) := Lib.hid (by rw [HE2.out]; rfl)
              clear hx3 hg3
              generalize textR 64 (at0 vs 3) = ra at *
              go_wp2_with fail
              refine HTx.out.mono ?_
              intro e w9 h9
              cases ra with
              | error c =>
                obtain ⟨rfl, hb9⟩ := h9
                have HB9 := Lib.hid (HB1.out.trans ((HBc.out.trans (hb9.mono HBc.out.size)).mono HB1.out.size))
                clear hb9
                go_wp2_with fail
                refine ⟨rfl, ?_⟩
                rw [HE3.out]
                exact ⟨rfl, HB9.out⟩
              | ok au =>
                obtain ⟨vv, rfl, hbv, hb9⟩ := h9
                have hcv := bytes_str hbv
                obtain ⟨va, vc, rfl⟩ := hbv.shape
                have hA9 := HA.out.kept (hb9.block _ HA.out.lt)
                have c1 : w9.cell? ⟨nb, 34, none⟩ = some (.string ⟨#[]⟩) := hA9.cell (k := 34) (by unfold n36; omega)
                have z1 : w9.frozen? ⟨nb, 34, none⟩ = false := hA9.free 34
                have HA : Hid (RF (w9.setCell ⟨nb, 34, none⟩ (.string ⟨au.toArray⟩)) nb 40 n36 (comF X ia ids.length ic s au [])) := Lib.hid ((hA9.set (k := 34) (by unfold n36; omega) (.string ⟨au.toArray⟩)).congr (fun j hj => com_set34 _ _ _ _ _ _ _ _ j hj))
                have HI3 : Hid (IdsV w1 (w9.setCell ⟨nb, 34, none⟩ (.string ⟨au.toArray⟩)) (.slice ia ids.length ic) ids) := Lib.hid ⟨row_kept HI3.out.1 (fun q hq => (Below.heap_setCell _ _ _ _ (by simpa using HNN.out q hq)).trans (hb9.block q (World.ownsRow.lt HI3.out.1 q hq).2)), HI3.out.2⟩
                have HBc : Hid (Below w1.heap.size w1 (w9.setCell ⟨nb, 34, none⟩ (.string ⟨au.toArray⟩))) := Lib.hid ((HBc.out.trans (hb9.mono HBc.out.size)).setCell (p := ⟨nb, 34, none⟩) HZQ.out _)
                generalize au.length = ln at *
                clear hb9 hA9 k0 k1 k2 k3 k4 hbv
                go_upto_region 7 with fail
                clear c1 z1 hcv
                generalize w9.setCell ⟨nb, 34, none⟩ (.string ⟨au.toArray⟩) = wa at *
                obtain ⟨g4, o4, t1, tc1, t2, tc2, heq4, hg4, _, _, ⟨k0, k1, k2, k3, k4⟩, hx4⟩ := HL1.out.el HLEN.out (j := 4) (by omega)
                injection heq4 with heq4
                injection heq4 with heq41 heq42
                subst heq41 heq42
                simp only [show 4 * 5 = 20 from rfl] at k0 k1 k2 k3 k4
                have hq5 : ∀ j, wa.cell? ⟨g, j, none⟩ = w1.cell? ⟨g, j, none⟩ := fun j => World.cell?_of_block (w := w1) (HBc.out.block g HG.out)
                rw [← hq5] at k0 k1 k2 k3 k4
                clear hq5
                have HTx := Lib.hid (rtext_any (fun k => k < w1.heap.size) 14 1024 _ _ wa (fun k hk => Nat.lt_of_lt_of_le hk HBc.out.size) (hx4.all _ HBc.out.block))
                have HE4 : Hid (comL vs = andR (textR 1024 (at0 vs 4)) fun n => .ok ⟨X, ids, s, au, n⟩) := Lib.hid (by rw [HE3.out]; rfl)
                clear hx4 hg4
                generalize textR 1024 (at0 vs 4) = rn at *
                go_wp2_with fail
                refine HTx.out.mono ?_
                intro e wb h9
                cases rn with
                | error c =>
                  obtain ⟨rfl, hb9⟩ := h9
                  have HB9 := Lib.hid (HB1.out.trans ((HBc.out.trans (hb9.mono HBc.out.size)).mono HB1.out.size))
                  clear hb9
                  go_wp2_with fail
                  refine ⟨rfl, ?_⟩
                  rw [HE4.out]
                  exact ⟨rfl, HB9.out⟩
                | ok no =>
                  obtain ⟨vv, rfl, hbv, hb9⟩ := h9
                  have hcv := bytes_str hbv
                  obtain ⟨va, vc, rfl⟩ := hbv.shape
                  have hA9 := HA.out.kept (hb9.block _ HA.out.lt)
                  have c1 : wb.cell? ⟨nb, 35, none⟩ = some (.string ⟨#[]⟩) := hA9.cell (k := 35) (by unfold n36; omega)
                  have z1 : wb.frozen? ⟨nb, 35, none⟩ = false := hA9.free 35
                  have HA : Hid (RF (wb.setCell ⟨nb, 35, none⟩ (.string ⟨no.toArray⟩)) nb 40 n36 (comF X ia ids.length ic s au no)) := Lib.hid ((hA9.set (k := 35) (by unfold n36; omega) (.string ⟨no.toArray⟩)).congr (fun j hj => com_set35 _ _ _ _ _ _ _ _ j hj))
                  have HI3 : Hid (IdsV w1 (wb.setCell ⟨nb, 35, none⟩ (.string ⟨no.toArray⟩)) (.slice ia ids.length ic) ids) := Lib.hid ⟨row_kept HI3.out.1 (fun q hq => (Below.heap_setCell _ _ _ _ (by simpa using HNN.out q hq)).trans (hb9.block q (World.ownsRow.lt HI3.out.1 q hq).2)), HI3.out.2⟩
                  have HBc : Hid (Below w1.heap.size w1 (wb.setCell ⟨nb, 35, none⟩ (.string ⟨no.toArray⟩))) := Lib.hid ((HBc.out.trans (hb9.mono HBc.out.size)).setCell (p := ⟨nb, 35, none⟩) HZQ.out _)
                  generalize no.length = ln at *
                  clear hb9 hA9 k0 k1 k2 k3 k4 hbv
                  go_upto_region 8 with fail
                  clear c1 z1 hcv
                  generalize wb.setCell ⟨nb, 35, none⟩ (.string ⟨no.toArray⟩) = wd at *
                  have HE5 : Hid (comL vs = .ok ⟨X, ids, s, au, no⟩) := Lib.hid (by rw [HE4.out]; rfl)
                  have hne : w.heap.size ≠ nb := by have := HZ1.out; have := HZQ.out; omega
                  have l6 := HA.out.cells
                  have R6 := HR1.out.kept (HBc.out.block w.heap.size (by have := HZ1.out; omega))
                  have s6 := R6.write (com_one X ia ids.length ic s au no n36)
                  have hol6 := rowL_len n36 (comF X ia ids.length ic s au no)
                  have HP6 := Lib.hid (R6.put (comF X ia ids.length ic s au no))
                  have hz1 := HZ1.out
                  have HI6 : Hid (IdsV w (wd.setRow w.heap.size (rowL n36 (comF X ia ids.length ic s au no)).toArray) (.slice ia ids.length ic) ids) := Lib.hid ⟨own_base (row_kept HI3.out.1 (fun q hq => setRow_other _ _ _ _ (by have := (World.ownsRow.lt HI3.out.1 q hq).1; omega))) (by omega), HI3.out.2⟩
                  have HB6 := Lib.hid (below_setRow (B := w.heap.size) (g := w.heap.size) (HB1.out.trans (HBc.out.mono HB1.out.size)) (Nat.le_refl _) (rowL n36 (comF X ia ids.length ic s au no)).toArray)
                  clear R6 hne hz1
                  go_wp2_with fail
                  refine bodyPost_ret (results_one Tryd.results36 _ _ rfl (HP6.out.var (com_agg _) (com_size _))) rfl ?_
                  rw [HE5.out]
                  exact ⟨_, rfl, ⟨ia, ic, rfl, HI6.out, HX.out, HSs.out⟩, HB6.out⟩
end Go.Proofs.YtdolonkeanlaoaaDoor
