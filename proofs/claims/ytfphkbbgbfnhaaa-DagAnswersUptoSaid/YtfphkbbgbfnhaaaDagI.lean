/- The walks of Missing and Ancestors. -/
import Derived.Test.YtfphkbbgbfnhaaaDagH
namespace Go.Proofs.Ytfphkbbgbfnhaaa
open Go.RowKit Go.Shelf Go.Maps Go.Lib Go.Sort

/-- What is reached from some, and not from others. -/
noncomputable def missN (g : Gr) (want have_ : List Txt) : List Txt := ((List.range g.length).filter (fun i => reachB g (begF g want) i && !reachB g (begF g have_) i)).map (nmOf g)
open Classical in
theorem miss_vis (g : Gr) (b : Nat → Bool) (f : Nat → Bool) : (((visN g b g.length).filter (fun x => !f x.1)).map (fun x => nmOf g x.1)).reverse = ((List.range g.length).filter (fun i => reachB g b i && !f i)).map (nmOf g) := by
  unfold visN
  rw [List.filter_map, List.map_map, ← List.map_reverse, List.filter_filter, ← List.filter_reverse, List.reverse_reverse]
  congr 1
  apply List.filter_congr
  intro i _
  show (!f i && decide (From g b i)) = (reachB g b i && !f i)
  unfold reachB
  rw [Bool.and_comm]
theorem grown_cells {w w' : World} {row : Option Nat} {b : Nat} {v : Value} {t : TypeId} (h : w.heap[b]? = some (.cells #[v] t (0, 0))) (hg : w.grownBy w' row) (hne : row ≠ some b) : w'.heap[b]? = some (.cells #[v] t (0, 0)) :=
  (hg.block b (Array.getElem?_eq_some_iff.1 h).1 (fun e => hne e.symm)).trans h
set_option maxRecDepth 100000 in
set_option maxHeartbeats 4000000 in
theorem missing_any (B : Nat) (S S2 S3 : Nat → Prop) (bg bm : Nat) (va v2 v3 : Value) (D : DataW Unit) (mb : Nat → Nat) (g : Gr) (l m : List Txt) (w : World) (h : GrAt B S w bg bm va D mb g) (hS2 : ∀ k, S2 k → k < w.heap.size) (hv2 : StrsC S2 w v2 l) (hl : l.length ≤ 4194304) (hx : ∀ x ∈ l, x.length ≤ 4194304)
    (hS3 : ∀ k, S3 k → k < w.heap.size) (hv3 : StrsC S3 w v3 m) (hm : m.length ≤ 4194304) (hy : ∀ x ∈ m, x.length ≤ 4194304) :
    Calls Try.prog 22 #[.pointer (some ⟨bg, 0, none⟩), v2, v3] w fun e w' => ∃ v', e = .returned v' ∧ OwnS w' w.heap.size v' (missN g l m) ∧ Below w.heap.size w w' := by
  have HR := Lib.hid (reached_any B S S3 bg bm va v3 D mb g m w h hS3 hv3 hm hy)
  have HW := Lib.hid (fun (W : World) (hb : Below w.heap.size w W) K cap J T0 h1 h2 h3 h4 h5 h6 => walk_any B S S2 bg bm va v2 D mb g l W (h.below hb) (fun k hk => Nat.lt_of_lt_of_le (hS2 k hk) hb.size) (hv2.kept (fun k hk => ⟨hk, hb.block k (hS2 k hk)⟩)) hl hx K cap J T0 h1 h2 h3 h4 h5 h6)
  have HG := Lib.hid h
  obtain ⟨la, lc, rfl⟩ := hv2.shape
  obtain ⟨ma, mc, rfl⟩ := hv3.shape
  have HP := Lib.hid (miss_vis g (begF g l) (reachB g (begF g m)))
  obtain ⟨n, hn⟩ : ∃ n, g.length = n := ⟨_, rfl⟩
  have HN := Lib.hid hn
  have hgl := h.len
  rw [hn] at hgl HR
  clear hn h hv2 hv3 hx hy
  go_enter Try.func22, Try.ntmps22
  go_wp2_with fail
  refine HR.out.mono ?_
  rintro e w1 ⟨cb, rfl, hbits, hcc, hcb, hb1⟩
  have HBI := Lib.hid hbits
  have HCC := Lib.hid hcc
  have HB1 := Lib.hid hb1
  have hcl : cb < w1.heap.size := hbits.lt
  clear hbits hcc hb1
  go_upto_region 3 with (fail)
  have hB : Hid (Below w.heap.size w ((w1.alloc (.cells #[.slice (some ⟨cb, 0, none⟩) n n] 66)).alloc (.cells #[.slice none 0 0] 23))) := Lib.hid ((HB1.out.alloc HB1.out.size _).alloc (by have := HB1.out.size; simp; omega) _)
  have hJ : Hid (JC g w.heap.size (w1.heap.size + 1) (fun x => !reachB g (begF g m) x.1) w1.heap.size cb n (reachB g (begF g m)) [] (fun k => k = w1.heap.size + 1 ∨ k = w1.heap.size ∨ k = cb) ((w1.alloc (.cells #[.slice (some ⟨cb, 0, none⟩) n n] 66)).alloc (.cells #[.slice none 0 0] 23))) := Lib.hid (by
    have hs1 := HB1.out.size
    have k1 : ((w1.alloc (.cells #[.slice (some ⟨cb, 0, none⟩) n n] 66)).alloc (.cells #[.slice none 0 0] 23)).heap[w1.heap.size + 1]? = some (.cells #[.slice none 0 0] 23 (0, 0)) := by
      have := new_five (w1.alloc (.cells #[.slice (some ⟨cb, 0, none⟩) n n] 66)) #[.slice none 0 0] 23
      simpa using this
    have k2 : ∀ k, k < w1.heap.size → ((w1.alloc (.cells #[.slice (some ⟨cb, 0, none⟩) n n] 66)).alloc (.cells #[.slice none 0 0] 23)).heap[k]? = w1.heap[k]? := fun k hk => (Below.heap_alloc _ _ _ (by simp; omega)).trans (Below.heap_alloc _ _ _ hk)
    refine ⟨fun k => k = w1.heap.size + 1, ⟨⟨.slice none 0 0, k1, ownS_nil _ _, by simp [Value.ownBlock], fun k => by simp [Value.ownBlock]⟩, by omega⟩, ⟨?_, HBI.out.kept (k2 cb hcl) (by simp; omega)⟩, cells_kept HCC.out (k2 cb hcl), ⟨by omega, by omega⟩, by simp, by simp; omega, fun k => Iff.rfl⟩
    have k3 := cell_of_one (new_five w1 #[.slice (some ⟨cb, 0, none⟩) n n] 66)
    exact (World.cell?_of_block (w := w1.alloc (.cells #[.slice (some ⟨cb, 0, none⟩) n n] 66)) (a := ⟨w1.heap.size, 0, none⟩) (Below.heap_alloc _ _ _ (by simp))).trans k3)
  have sB : w1.heap.size + 1 < ((w1.alloc (.cells #[.slice (some ⟨cb, 0, none⟩) n n] 66)).alloc (.cells #[.slice none 0 0] 23)).heap.size := by simp
  generalize (w1.alloc (.cells #[.slice (some ⟨cb, 0, none⟩) n n] 66)).alloc (.cells #[.slice none 0 0] 23) = wB at *
  have hs1 := HB1.out.size
  generalize w1.heap.size = ba at *
  clear HR HBI HCC HB1
  go_wp2_with fail
  have hn := HN.out
  subst hn
  have HC := Lib.hid (HW.out wB hB.out 37 #[.pointer (some ⟨ba, 0, none⟩), .pointer (some ⟨ba + 1, 0, none⟩)] (JC g w.heap.size (ba + 1) (fun x => !reachB g (begF g m) x.1) ba cb g.length (reachB g (begF g m))) (fun k => k = ba + 1 ∨ k = ba ∨ k = cb)
    (fun k hk => by
      refine ⟨by rcases hk with rfl | rfl | rfl <;> omega, fun hd => ?_⟩
      have := (HG.out.domlt k hd).2
      rcases hk with rfl | rfl | rfl <;> omega) enters37 JC.cells JC.kept hJ.out (fun pre T W p t hp hpl hj hTd hgW => JC.missing pre T W p t hp hpl hj hTd hgW))
  refine HC.out.mono ?_
  rintro e w5 ⟨rfl, T', hT', ⟨T1, hA, _, _, _, _, _, _⟩, hT5⟩
  obtain ⟨v, k1, k2, k3, _⟩ := hA.ex
  have hlen : ((visN g (begF g l) g.length).filter (fun x => !reachB g (begF g m) x.1)).length ≤ 4194304 := by
    have := List.length_filter_le (fun x : Nat × Bool => !reachB g (begF g m) x.1) (visN g (begF g l) g.length)
    have h2 : (visN g (begF g l) g.length).length ≤ g.length := by
      unfold visN
      rw [List.length_map]
      exact Nat.le_trans (List.length_filter_le _ _) (by simp)
    omega
  have HRV := Lib.hid (revS_any w.heap.size v _ w5 k2 (by simpa using hlen))
  have HK1 := Lib.hid k1
  have c1 := cell_of_one k1
  have HB5 : Hid (Below w.heap.size w w5) := Lib.hid ⟨hT5.os.trans hB.out.os, hT5.tape.trans hB.out.tape, hT5.output.trans hB.out.output, Nat.le_trans hB.out.size hT5.size, fun k hk => (hT5.block k (Nat.lt_of_lt_of_le hk hB.out.size) (fun h => by rcases h with rfl | rfl | rfl <;> omega)).trans (hB.out.block k hk)⟩
  have HK3 := Lib.hid k3
  have HOL := Lib.hid (fun j hj => (World.ownsRow.lt k2 j hj).1)
  obtain ⟨oa, oc, rfl⟩ := ownS_slice k2
  rw [HP.out] at HRV
  clear k1 k2 hA hT5 hT' hlen
  generalize hll : List.map (fun x : Nat × Bool => nmOf g x.1) (List.filter (fun x => !reachB g (begF g m) x.1) (visN g (begF g l) g.length)) = ll at *
  clear hll
  go_wp2_with fail
  refine HRV.out.mono ?_
  rintro e w6 ⟨rfl, o6, g6⟩
  have c6 := cell_of_one (grown_cells HK1.out g6 HK3.out)
  have O6 := Lib.hid o6
  have B6 : Hid (Below w.heap.size w w6) := Lib.hid (HB5.out.grown g6 HB5.out.size HOL.out)
  clear o6 g6 c1
  go_wp2_with fail
  go_ret
  exact ⟨_, rfl, O6.out, B6.out⟩
/-- What some nodes come from, and they. -/
theorem ancestors_any (B : Nat) (S S2 : Nat → Prop) (bg bm : Nat) (va v2 : Value) (D : DataW Unit) (mb : Nat → Nat) (g : Gr) (l : List Txt) (w : World) (h : GrAt B S w bg bm va D mb g) (hS2 : ∀ k, S2 k → k < w.heap.size) (hv2 : StrsC S2 w v2 l) (hl : l.length ≤ 4194304) (hx : ∀ x ∈ l, x.length ≤ 4194304) :
    Calls Try.prog 14 #[.pointer (some ⟨bg, 0, none⟩), v2] w fun e w' => ∃ v', e = .returned v' ∧ OwnS w' w.heap.size v' (missN g l []) ∧ Below w.heap.size w w' := by
  have HM := Lib.hid (missing_any B S S2 (fun _ => False) bg bm va v2 (.slice none 0 0) D mb g l [] w h hS2 hv2 hl hx (fun k hk => hk.elim) (CellsC.nil _ _ none 0 1) (by simp) (fun x hx => by cases hx))
  obtain ⟨la, lc, rfl⟩ := hv2.shape
  clear h hv2 hx
  go_enter Try.func14, Try.ntmps14
  go_wp2_with fail
  refine HM.out.mono ?_
  rintro e w1 ⟨v', rfl, h1, h2⟩
  have H1 := Lib.hid h1
  have H2 := Lib.hid h2
  obtain ⟨oa, oc, rfl⟩ := ownS_slice h1
  clear h1 h2
  go_wp2_with fail
  go_ret
  exact ⟨_, rfl, H1.out, H2.out⟩
end Go.Proofs.Ytfphkbbgbfnhaaa
