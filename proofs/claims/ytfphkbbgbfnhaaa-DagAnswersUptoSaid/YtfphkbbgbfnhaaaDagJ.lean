/- The walks of Tips, Bases. -/
import Derived.Test.YtfphkbbgbfnhaaaDagI
namespace Go.Proofs.Ytfphkbbgbfnhaaa
open Go.RowKit Go.Shelf Go.Maps Go.Lib Go.Sort

/-- Those from which no other one comes, in order. -/
def IsTips (g : Gr) (b : Nat → Bool) (R : List Txt) : Prop := Asc R ∧ ∀ x, x ∈ R ↔ ∃ i, i < g.length ∧ nmOf g i = x ∧ From g b i ∧ ¬ Under g b i
theorem tips_eq {g : Gr} {b : Nat → Bool} {R R' : List Txt} (h : IsTips g b R) (h' : IsTips g b R') : R = R' := asc_eq h.1 h'.1 (fun x => (h.2 x).trans (h'.2 x).symm)
open Classical in
theorem tips_sort (g : Gr) (hg : Good g) (b : Nat → Bool) : IsTips g b ((((visN g b g.length).filter (fun x => x.2)).map (fun x => nmOf g x.1)).mergeSort fun x y => decide (x ≤ y)) := by
  have e : ((visN g b g.length).filter (fun x => x.2)).map (fun x => nmOf g x.1) = (((List.range g.length).reverse).filter (fun i => !decide (Under g b i) && decide (From g b i))).map (nmOf g) := by
    unfold visN
    rw [List.filter_map, List.map_map, List.filter_filter]
    rfl
  rw [e]
  have hperm := List.mergeSort_perm ((((List.range g.length).reverse).filter (fun i => !decide (Under g b i) && decide (From g b i))).map (nmOf g)) (fun x y => decide (x ≤ y))
  constructor
  · refine sorted_asc ?_ ?_
    · rw [hperm.nodup_iff]
      unfold List.Nodup
      rw [List.pairwise_map]
      have hnd : (((List.range g.length).reverse).filter (fun i => !decide (Under g b i) && decide (From g b i))).Nodup := List.Pairwise.filter _ ((List.reverse_perm _).nodup_iff.2 List.nodup_range)
      refine List.Pairwise.imp_of_mem ?_ hnd
      intro i j hi hj hij h
      have h1 : i < g.length := by simpa using (List.mem_filter.1 hi).1
      have h2 : j < g.length := by simpa using (List.mem_filter.1 hj).1
      exact hij (nm_inj hg h1 h2 h)
    · have hs := List.pairwise_mergeSort (le := fun x y : Txt => decide (x ≤ y)) (fun a b c h1 h2 => by simp only [decide_eq_true_eq] at *; exact List.le_trans h1 h2) (fun a b => by
        simp only [Bool.or_eq_true, decide_eq_true_eq]; exact List.le_total a b) ((((List.range g.length).reverse).filter (fun i => !decide (Under g b i) && decide (From g b i))).map (nmOf g))
      exact hs.imp (fun h => List.not_lt.2 (by simpa using h))
  · intro x
    rw [hperm.mem_iff]
    simp only [List.mem_map, List.mem_filter, List.mem_reverse, List.mem_range, Bool.and_eq_true, Bool.not_eq_true', decide_eq_true_eq, decide_eq_false_iff_not]
    constructor
    · rintro ⟨i, ⟨h1, h2, h3⟩, rfl⟩; exact ⟨i, h1, rfl, h3, h2⟩
    · rintro ⟨i, h1, rfl, h3, h2⟩; exact ⟨i, ⟨h1, h2, h3⟩, rfl⟩
/-- What the closure of Tips holds. -/
def JT (g : Gr) (lo bx : Nat) (pre : List (Nat × Bool)) (T : Nat → Prop) (W : World) : Prop := Acc lo bx ((pre.filter (fun x => x.2)).map (fun x => nmOf g x.1)) T W ∧ pre.length ≤ 4194304 ∧ lo ≤ W.heap.size
theorem JT.cells {g : Gr} {lo bx : Nat} (pre : List (Nat × Bool)) (T : Nat → Prop) (W : World) (h : JT g lo bx pre T W) : ∀ k, T k → ∃ o : Obj, W.heap[k]? = some o ∧ o.isCells = true := h.1.cells
theorem JT.kept {g : Gr} {lo bx : Nat} (pre : List (Nat × Bool)) (T : Nat → Prop) (W W' : World) (h : JT g lo bx pre T W) (hk : ∀ k, T k → W'.heap[k]? = W.heap[k]?) (hs : W.heap.size ≤ W'.heap.size) : JT g lo bx pre T W' := ⟨h.1.kept hk, h.2.1, Nat.le_trans h.2.2 hs⟩
theorem enters34 : ∀ args w, (callFunc 34 args).run Try.prog w = .ok (.enter 34 args) w := enters_of Try.func34 (by kernel_rfl) rfl
theorem JT.step {g : Gr} {lo bx : Nat} {B : Nat} {S : Nat → Prop} {bg bm : Nat} {va : Value} {D : DataW Unit} {mb : Nat → Nat} (pre : List (Nat × Bool)) (T : Nat → Prop) (W : World) (p : Nat) (t : Bool) (hp : p < g.length) (hpl : pre.length < g.length)
    (h : JT g lo bx pre T W) (hTd : ∀ k, T k → ¬ GrDom S va k) (hG : GrAt B S W bg bm va D mb g) :
    Calls Try.prog 34 (#[.pointer (some ⟨mb p, 0, none⟩), .bool t] ++ #[.pointer (some ⟨bx, 0, none⟩)]) W fun e W' => e = .returned (.tuple #[]) ∧ ∃ T', (∀ k, T' k → T k ∨ W.heap.size ≤ k) ∧ JT g lo bx (pre ++ [(p, t)]) T' W' ∧ Turns T W W' := by
  obtain ⟨_, m0, m1, _, _⟩ := hG.mems p hp
  have hn := hG.len
  cases t
  · refine (tips1_no _ _ W).mono ?_
    rintro e W' ⟨rfl, rfl⟩
    refine ⟨rfl, T, fun k hk => Or.inl hk, ⟨?_, by simp; omega, h.2.2⟩, ⟨rfl, rfl, rfl, Nat.le_refl _, fun _ _ _ => rfl⟩⟩
    rw [List.filter_append]
    simpa using h.1
  · refine (tips1_yes lo bx (mb p) (nmOf g p) _ T W h.1 (fun ht => hTd (mb p) ht (Or.inl (hG.smb p hp))) m0 (by have := List.length_filter_le (fun x : Nat × Bool => x.2) pre; have := h.2.1; simp; omega) h.2.2).mono ?_
    rintro e W' ⟨rfl, T', t1, t2, t3⟩
    refine ⟨rfl, T', t1, ⟨?_, by simp; omega, Nat.le_trans h.2.2 t3.size⟩, t3⟩
    rw [List.filter_append, List.map_append]
    simpa using t2
theorem vis_len (g : Gr) (b : Nat → Bool) : (visN g b g.length).length ≤ g.length := by
  unfold visN
  rw [List.length_map]
  exact Nat.le_trans (List.length_filter_le _ _) (by simp)
set_option maxRecDepth 100000 in
set_option maxHeartbeats 4000000 in
theorem tips_any (B : Nat) (S S2 : Nat → Prop) (bg bm : Nat) (va v2 : Value) (D : DataW Unit) (mb : Nat → Nat) (g : Gr) (l : List Txt) (w : World) (h : GrAt B S w bg bm va D mb g) (hS2 : ∀ k, S2 k → k < w.heap.size) (hv2 : StrsC S2 w v2 l) (hl : l.length ≤ 4194304) (hx : ∀ x ∈ l, x.length ≤ 4194304) :
    Calls Try.prog 20 #[.pointer (some ⟨bg, 0, none⟩), v2] w fun e w' => ∃ v' R, e = .returned v' ∧ OwnS w' w.heap.size v' R ∧ IsTips g (begF g l) R ∧ R.length ≤ g.length ∧ Below w.heap.size w w' := by
  have HW := Lib.hid (fun (W : World) (hb : Below w.heap.size w W) K cap J T0 h1 h2 h3 h4 h5 h6 => walk_any B S S2 bg bm va v2 D mb g l W (h.below hb) (fun k hk => Nat.lt_of_lt_of_le (hS2 k hk) hb.size) (hv2.kept (fun k hk => ⟨hk, hb.block k (hS2 k hk)⟩)) hl hx K cap J T0 h1 h2 h3 h4 h5 h6)
  have HG := Lib.hid h
  obtain ⟨la, lc, rfl⟩ := hv2.shape
  have HP := Lib.hid (tips_sort g h.good (begF g l))
  have hgl := h.len
  clear h hv2 hx
  go_enter Try.func20, Try.ntmps20
  go_upto_region 2 with (fail)
  have hB : Hid (Below w.heap.size w (w.alloc (.cells #[.slice none 0 0] 23))) := Lib.hid ((Below.refl _ w).alloc (Nat.le_refl _) _)
  have hJ : Hid (JT g w.heap.size w.heap.size [] (fun k => k = w.heap.size) (w.alloc (.cells #[.slice none 0 0] 23))) := Lib.hid ⟨⟨⟨.slice none 0 0, new_five w _ _, ownS_nil _ _, by simp [Value.ownBlock], fun k => by simp [Value.ownBlock]⟩, Nat.le_refl _⟩, by simp, by simp⟩
  have sB : w.heap.size < (w.alloc (.cells #[.slice none 0 0] 23)).heap.size := by simp
  generalize w.alloc (.cells #[.slice none 0 0] 23) = wB at *
  obtain ⟨bx, hbx⟩ : ∃ bx, w.heap.size = bx := ⟨_, rfl⟩
  have HBX := Lib.hid hbx
  rw [hbx] at hJ
  rw [hbx]
  go_wp2_with fail
  have HC := Lib.hid (HW.out wB hB.out 34 #[.pointer (some ⟨bx, 0, none⟩)] (JT g bx bx) (fun k => k = bx)
    (fun k hk => ⟨by have := HBX.out; omega, fun hd => by have := (HG.out.domlt k hd).2; have := HBX.out; omega⟩) enters34 JT.cells JT.kept hJ.out (fun pre T W p t hp hpl hj hTd hgW => JT.step pre T W p t hp hpl hj hTd hgW))
  clear hbx
  refine HC.out.mono ?_
  rintro e w5 ⟨rfl, T', hT', ⟨hA, _, _⟩, hT5⟩
  obtain ⟨v, k1, k2, k3, _⟩ := hA.ex
  have HLN : Hid (((visN g (begF g l) g.length).filter (fun x => x.2)).length ≤ g.length) := Lib.hid (Nat.le_trans (List.length_filter_le _ _) (vis_len g _))
  have HRV := Lib.hid (sortS_any bx v _ w5 k2 (by have := HLN.out; simp; omega))
  have HK1 := Lib.hid k1
  have c1 := cell_of_one k1
  have HB5 : Hid (Below w.heap.size w w5) := Lib.hid ⟨hT5.os.trans hB.out.os, hT5.tape.trans hB.out.tape, hT5.output.trans hB.out.output, Nat.le_trans hB.out.size hT5.size, fun k hk => (hT5.block k (Nat.lt_of_lt_of_le hk hB.out.size) (fun h => by have := HBX.out; omega)).trans (hB.out.block k hk)⟩
  have HK3 := Lib.hid k3
  have HOL := Lib.hid (fun j hj => (World.ownsRow.lt k2 j hj).1)
  obtain ⟨oa, oc, rfl⟩ := ownS_slice k2
  have HLR : Hid (((((visN g (begF g l) g.length).filter (fun x => x.2)).map (fun x => nmOf g x.1)).mergeSort fun x y => decide (x ≤ y)).length ≤ g.length) := Lib.hid (by rw [List.length_mergeSort, List.length_map]; exact HLN.out)
  clear k1 k2 hA hT5 hT'
  generalize ((((visN g (begF g l) g.length).filter (fun x => x.2)).map (fun x => nmOf g x.1)).mergeSort fun x y => decide (x ≤ y)) = R at *
  generalize ((visN g (begF g l) g.length).filter (fun x => x.2)).map (fun x => nmOf g x.1) = ll at *
  go_wp2_with fail
  refine HRV.out.mono ?_
  rintro e w6 ⟨rfl, o6, g6⟩
  have c6 := cell_of_one (grown_cells HK1.out g6 HK3.out)
  have O6 := Lib.hid o6
  have B6 : Hid (Below w.heap.size w w6) := Lib.hid (HB5.out.grown g6 HB5.out.size (fun j hj => by rw [HBX.out]; exact HOL.out j hj))
  clear o6 g6 c1
  go_wp2_with fail
  go_ret
  exact ⟨_, R, rfl, by rw [HBX.out]; exact O6.out, HP.out, HLR.out, B6.out⟩
/-- A list of one text. -/
theorem strs_one (w : World) (x : Txt) : StrsC (fun k => w.heap.size ≤ k ∧ k < w.heap.size + 1) (w.alloc (.cells #[.string ⟨x.toArray⟩] 9)) (.slice (some ⟨w.heap.size, 0, none⟩) 1 1) [x] :=
  row_cells w #[.string ⟨x.toArray⟩] 9 1 1 rfl (by unfold maxLen; omega) (fun u hu => by simp at hu; subst hu; rfl)
/-- The names from which both come. -/
noncomputable def bothN (g : Gr) (x y : Txt) : List Txt := ((visN g (begF g [y]) g.length).filter (fun p => reachB g (begF g [x]) p.1)).map (fun p => nmOf g p.1)
set_option maxRecDepth 100000 in
set_option maxHeartbeats 4000000 in
theorem bases_any (B : Nat) (S : Nat → Prop) (bg bm : Nat) (va : Value) (D : DataW Unit) (mb : Nat → Nat) (g : Gr) (x y : Txt) (w : World) (h : GrAt B S w bg bm va D mb g) (hx : x.length ≤ 4194304) (hy : y.length ≤ 4194304) :
    Calls Try.prog 18 #[.pointer (some ⟨bg, 0, none⟩), .string ⟨x.toArray⟩, .string ⟨y.toArray⟩] w fun e w' => ∃ v' R, e = .returned v' ∧ OwnS w' w.heap.size v' R ∧ IsTips g (begF g (bothN g x y)) R ∧ R.length ≤ g.length ∧ Below w.heap.size w w' := by
  have HG := Lib.hid h
  have hgl := h.len
  have hdl : Hid (∀ k, GrDom S va k → k < w.heap.size) := Lib.hid (fun k hk => (h.domlt k hk).2)
  obtain ⟨n, hn⟩ : ∃ n, g.length = n := ⟨_, rfl⟩
  have HN := Lib.hid hn
  rw [hn] at hgl
  clear h hn
  go_enter Try.func18, Try.ntmps18
  go_wp2_with fail
  refine (reached_any B S _ bg bm va _ D mb g [x] _ (HG.out.below ((Below.refl _ w).alloc (Nat.le_refl _) _)) (fun k hk => by simpa using hk.2) (strs_one w x) (by simp) (fun z hz => by rw [List.mem_singleton] at hz; rw [hz]; exact hx)).mono ?_
  rintro e w1 ⟨cb, rfl, hbits, hcc, hcb, hb1⟩
  have HBI := Lib.hid hbits
  have HCC := Lib.hid hcc
  have HB1 : Hid (Below w.heap.size w w1) := Lib.hid (((Below.refl _ w).alloc (Nat.le_refl _) _).trans (hb1.mono (by simp)))
  have hcl : cb < w1.heap.size := hbits.lt
  have hcw : w.heap.size ≤ cb := by simp at hcb; omega
  have hn0 := HN.out
  rw [hn0]
  clear hbits hcc hb1 hcb hn0
  go_upto_region 3 with (fail)
  have hB : Hid (Below w.heap.size w ((w1.alloc (.cells #[.slice (some ⟨cb, 0, none⟩) n n] 66)).alloc (.cells #[.slice none 0 0] 23))) := Lib.hid ((HB1.out.alloc HB1.out.size _).alloc (by have := HB1.out.size; simp; omega) _)
  have hJ : Hid (JC g w.heap.size (w1.heap.size + 1) (fun z => reachB g (begF g [x]) z.1) w1.heap.size cb n (reachB g (begF g [x])) [] (fun k => k = w1.heap.size + 1 ∨ k = w1.heap.size ∨ k = cb) ((w1.alloc (.cells #[.slice (some ⟨cb, 0, none⟩) n n] 66)).alloc (.cells #[.slice none 0 0] 23))) := Lib.hid (by
    have hs1 := HB1.out.size
    have k1 : ((w1.alloc (.cells #[.slice (some ⟨cb, 0, none⟩) n n] 66)).alloc (.cells #[.slice none 0 0] 23)).heap[w1.heap.size + 1]? = some (.cells #[.slice none 0 0] 23 (0, 0)) := by
      have := new_five (w1.alloc (.cells #[.slice (some ⟨cb, 0, none⟩) n n] 66)) #[.slice none 0 0] 23
      simpa using this
    have k2 : ∀ k, k < w1.heap.size → ((w1.alloc (.cells #[.slice (some ⟨cb, 0, none⟩) n n] 66)).alloc (.cells #[.slice none 0 0] 23)).heap[k]? = w1.heap[k]? := fun k hk => (Below.heap_alloc _ _ _ (by simp; omega)).trans (Below.heap_alloc _ _ _ hk)
    refine ⟨fun k => k = w1.heap.size + 1, ⟨⟨.slice none 0 0, k1, ownS_nil _ _, by simp [Value.ownBlock], fun k => by simp [Value.ownBlock]⟩, by omega⟩, ⟨?_, by have := HBI.out.kept (k2 cb hcl) (by simp; omega); rwa [HN.out] at this⟩, cells_kept HCC.out (k2 cb hcl), ⟨by omega, by omega⟩, by simp, by simp; omega, fun k => Iff.rfl⟩
    have k3 := cell_of_one (new_five w1 #[.slice (some ⟨cb, 0, none⟩) n n] 66)
    exact (World.cell?_of_block (w := w1.alloc (.cells #[.slice (some ⟨cb, 0, none⟩) n n] 66)) (a := ⟨w1.heap.size, 0, none⟩) (Below.heap_alloc _ _ _ (by simp))).trans k3)
  have sB : w1.heap.size + 1 < ((w1.alloc (.cells #[.slice (some ⟨cb, 0, none⟩) n n] 66)).alloc (.cells #[.slice none 0 0] 23)).heap.size := by simp
  generalize (w1.alloc (.cells #[.slice (some ⟨cb, 0, none⟩) n n] 66)).alloc (.cells #[.slice none 0 0] 23) = wB at *
  have hs1 := HB1.out.size
  generalize w1.heap.size = ba at *
  clear HBI HCC HB1
  go_wp2_with fail
  have hn := HN.out
  subst hn
  have hB2 : Hid (Below w.heap.size w (wB.alloc (.cells #[.string ⟨y.toArray⟩] 9))) := Lib.hid (hB.out.alloc hB.out.size _)
  have HC := Lib.hid (walk_any B S _ bg bm va _ D mb g [y] _ (HG.out.below hB2.out) (fun k hk => by simpa using hk.2) (strs_one wB y) (by simp) (fun z hz => by rw [List.mem_singleton] at hz; rw [hz]; exact hy) 33 #[.pointer (some ⟨ba, 0, none⟩), .pointer (some ⟨ba + 1, 0, none⟩)] (JC g w.heap.size (ba + 1) (fun z => reachB g (begF g [x]) z.1) ba cb g.length (reachB g (begF g [x]))) (fun k => k = ba + 1 ∨ k = ba ∨ k = cb)
    (fun k hk => by
      refine ⟨by simp; rcases hk with rfl | rfl | rfl <;> omega, fun hd => ?_⟩
      have := hdl.out k hd
      rcases hk with rfl | rfl | rfl <;> omega) enters33 JC.cells JC.kept (JC.kept _ _ _ _ hJ.out (fun k hk => Below.heap_alloc _ _ _ (by rcases hk with rfl | rfl | rfl <;> omega)) (by simp)) (fun pre T W p t hp hpl hj hTd hgW => JC.bases pre T W p t hp hpl hj hTd hgW))
  refine HC.out.mono ?_
  rintro e w5 ⟨rfl, T', hT', ⟨T1, hA, _, _, _, _, _, _⟩, hT5⟩
  obtain ⟨v, k1, k2, k3, _⟩ := hA.ex
  have hlen : (bothN g x y).length ≤ 4194304 := by
    have := List.length_filter_le (fun z : Nat × Bool => reachB g (begF g [x]) z.1) (visN g (begF g [y]) g.length)
    have := vis_len g (begF g [y])
    unfold bothN
    rw [List.length_map]
    omega
  have HB5 : Hid (Below w.heap.size w w5) := Lib.hid ⟨hT5.os.trans hB2.out.os, hT5.tape.trans hB2.out.tape, hT5.output.trans hB2.out.output, Nat.le_trans hB2.out.size hT5.size, fun k hk => (hT5.block k (Nat.lt_of_lt_of_le hk hB2.out.size) (fun h => by rcases h with rfl | rfl | rfl <;> omega)).trans (hB2.out.block k hk)⟩
  have HTI := Lib.hid (tips_any B S _ bg bm va v D mb g (bothN g x y) w5 (HG.out.below HB5.out) (fun k hk => hk.2) (ownS_c k2) hlen (fun z hz => by
    unfold bothN at hz
    obtain ⟨p, _, rfl⟩ := List.mem_map.1 hz
    exact HG.out.txt _))
  have c1 := cell_of_one k1
  obtain ⟨oa, oc, rfl⟩ := ownS_slice k2
  clear k1 k2 hA hT5 hT' hlen
  generalize hll : List.map (fun z : Nat × Bool => nmOf g z.1) (List.filter (fun z => reachB g (begF g [x]) z.1) (visN g (begF g [y]) g.length)) = ll at *
  clear hll
  go_wp2_with fail
  refine HTI.out.mono ?_
  rintro e w6 ⟨v6, R, rfl, o6, t6, l6, b6⟩
  have O6 : Hid (OwnS w6 w.heap.size v6 R) := Lib.hid (own_base o6 HB5.out.size)
  have B6 : Hid (Below w.heap.size w w6) := Lib.hid (HB5.out.trans (b6.mono HB5.out.size))
  obtain ⟨oa2, oc2, rfl⟩ := ownS_slice o6
  have T6 := Lib.hid t6
  clear o6 b6 t6 c1
  go_wp2_with fail
  go_ret
  exact ⟨_, R, rfl, O6.out, T6.out, l6, B6.out⟩
end Go.Proofs.Ytfphkbbgbfnhaaa
