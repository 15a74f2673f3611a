/- The walks of Comes and Parents. -/
import Derived.Test.YtfphkbbgbfnhaaaDagJ
namespace Go.Proofs.Ytfphkbbgbfnhaaa
open Go.RowKit Go.Shelf Go.Maps Go.Lib Go.Sort

/-- What the closure of Comes holds. -/
def JG (mb : Nat → Nat) (go : Option Nat) (bf bgo : Nat) (pre : List (Nat × Bool)) (T : Nat → Prop) (W : World) : Prop :=
  W.heap[bf]? = some (.cells #[.bool (pre.any (fun x => decide (go = some (mb x.1))))] 4 (0, 0)) ∧ W.heap[bgo]? = some (.cells #[.pointer (go.map fun k => ⟨k, 0, none⟩)] 59 (0, 0)) ∧ bf ≠ bgo ∧ ∀ k, T k ↔ (k = bf ∨ k = bgo)
theorem JG.cells {mb : Nat → Nat} {go : Option Nat} {bf bgo : Nat} (pre : List (Nat × Bool)) (T : Nat → Prop) (W : World) (h : JG mb go bf bgo pre T W) : ∀ k, T k → ∃ o : Obj, W.heap[k]? = some o ∧ o.isCells = true := by
  intro k hk
  rcases (h.2.2.2 k).1 hk with rfl | rfl
  · exact ⟨_, h.1, rfl⟩
  · exact ⟨_, h.2.1, rfl⟩
theorem JG.kept {mb : Nat → Nat} {go : Option Nat} {bf bgo : Nat} (pre : List (Nat × Bool)) (T : Nat → Prop) (W W' : World) (h : JG mb go bf bgo pre T W) (hk : ∀ k, T k → W'.heap[k]? = W.heap[k]?) (_ : W.heap.size ≤ W'.heap.size) : JG mb go bf bgo pre T W' :=
  ⟨(hk bf ((h.2.2.2 _).2 (Or.inl rfl))).trans h.1, (hk bgo ((h.2.2.2 _).2 (Or.inr rfl))).trans h.2.1, h.2.2⟩
theorem enters30 : ∀ args w, (callFunc 30 args).run Try.prog w = .ok (.enter 30 args) w := enters_of Try.func30 (by kernel_rfl) rfl
theorem JG.step {g : Gr} {go : Option Nat} {bf bgo : Nat} {B : Nat} {S : Nat → Prop} {bg bm : Nat} {va : Value} {D : DataW Unit} {mb : Nat → Nat} (pre : List (Nat × Bool)) (T : Nat → Prop) (W : World) (p : Nat) (t : Bool) (hp : p < g.length) (hgo : ∀ k, go = some k → ∃ j, j < g.length ∧ k = mb j)
    (h : JG mb go bf bgo pre T W) (hG : GrAt B S W bg bm va D mb g) :
    Calls Try.prog 30 (#[.pointer (some ⟨mb p, 0, none⟩), .bool t] ++ #[.pointer (some ⟨bf, 0, none⟩), .pointer (some ⟨bgo, 0, none⟩)]) W fun e W' => e = .returned (.tuple #[]) ∧ ∃ T', (∀ k, T' k → T k ∨ W.heap.size ≤ k) ∧ JG mb go bf bgo (pre ++ [(p, t)]) T' W' ∧ Turns T W W' := by
  obtain ⟨v, hb, _⟩ := hG.blk p hp
  refine (comes1_any bf bgo (mb p) _ go _ t W (cell_of_one h.1) (frozen_box h.1 0) (cell_of_one h.2.1) hb (fun k hk => by
    obtain ⟨j, h1, rfl⟩ := hgo k hk
    obtain ⟨v2, h2, _⟩ := hG.blk j h1
    exact ⟨_, h2⟩)).mono ?_
  rintro e W' ⟨rfl, rfl⟩
  refine ⟨rfl, T, fun k hk => Or.inl hk, ⟨?_, (Below.heap_setCell _ _ _ _ (fun e => h.2.2.1 e.symm)).trans h.2.1, h.2.2⟩, ⟨rfl, rfl, rfl, by simp, fun k _ hk => Below.heap_setCell _ _ _ _ (fun e => hk ((h.2.2.2 k).2 (Or.inl e)))⟩⟩
  rw [one_setCell h.1, List.any_append]
  simp
/-- Does a node come from another one? -/
noncomputable def comesB (g : Gr) (x y : Txt) : Bool := reachB g (begF g [x]) (idxN g y) && decide (idxN g y < g.length)
set_option maxRecDepth 100000 in
set_option maxHeartbeats 4000000 in
theorem comes_any (B : Nat) (S : Nat → Prop) (bg bm : Nat) (va : Value) (D : DataW Unit) (mb : Nat → Nat) (g : Gr) (x y : Txt) (w : World) (h : GrAt B S w bg bm va D mb g) (hx : x.length ≤ 4194304) (hy : y.length ≤ 4194304) :
    Calls Try.prog 16 #[.pointer (some ⟨bg, 0, none⟩), .string ⟨x.toArray⟩, .string ⟨y.toArray⟩] w fun e w' => e = .returned (.bool (comesB g x y)) ∧ Below w.heap.size w w' := by
  have HG := Lib.hid h
  have hdl : Hid (∀ k, GrDom S va k → k < w.heap.size) := Lib.hid (fun k hk => (h.domlt k hk).2)
  have c0 := h.c0
  obtain ⟨go, hgo⟩ : ∃ go : Option Nat, go = if idxN g y < g.length then some (mb (idxN g y)) else none := ⟨_, rfl⟩
  have hl : (Instr.lookup 60 (.map (some bm)) (.string ⟨y.toArray⟩) false).run Try.prog w = .ok (.pointer (go.map fun k => ⟨k, 0, none⟩)) w := by
    rw [h.look hy, hgo]
    split <;> rfl
  have HGO := Lib.hid hgo
  clear hgo
  have hb0 : bg < w.heap.size := (h.dom bg h.sg).2
  clear h
  obtain ⟨r, hr⟩ : ∃ r, comesB g x y = r := ⟨_, rfl⟩
  have HCR := Lib.hid hr
  rw [hr]
  clear hr
  go_enter Try.func16, Try.ntmps16
  go_upto_region 3 with (fail)
  have hB : Hid (Below w.heap.size w ((w.alloc (.cells #[.pointer (go.map fun k => ⟨k, 0, none⟩)] 59)).alloc (.cells #[.bool false] 4))) := Lib.hid (((Below.refl _ w).alloc (Nat.le_refl _) _).alloc (by simp) _)
  have hJ : Hid (JG mb go (w.heap.size + 1) w.heap.size [] (fun k => k = w.heap.size + 1 ∨ k = w.heap.size) ((w.alloc (.cells #[.pointer (go.map fun k => ⟨k, 0, none⟩)] 59)).alloc (.cells #[.bool false] 4))) := Lib.hid (by
    refine ⟨?_, (Below.heap_alloc _ _ _ (by simp)).trans (new_five w _ _), by omega, fun k => Iff.rfl⟩
    have := new_five (w.alloc (.cells #[.pointer (go.map fun k => ⟨k, 0, none⟩)] 59)) #[.bool false] 4
    simpa using this)
  have sB : w.heap.size + 1 < ((w.alloc (.cells #[.pointer (go.map fun k => ⟨k, 0, none⟩)] 59)).alloc (.cells #[.bool false] 4)).heap.size := by simp
  generalize (w.alloc (.cells #[.pointer (go.map fun k => ⟨k, 0, none⟩)] 59)).alloc (.cells #[.bool false] 4) = wB at *
  go_wp2_with fail
  have hB2 : Hid (Below w.heap.size w (wB.alloc (.cells #[.string ⟨x.toArray⟩] 9))) := Lib.hid (hB.out.alloc hB.out.size _)
  have HC := Lib.hid (walk_any B S _ bg bm va _ D mb g [x] _ (HG.out.below hB2.out) (fun k hk => by simpa using hk.2) (strs_one wB x) (by simp) (fun z hz => by rw [List.mem_singleton] at hz; rw [hz]; exact hx) 30 #[.pointer (some ⟨w.heap.size + 1, 0, none⟩), .pointer (some ⟨w.heap.size, 0, none⟩)] (JG mb go (w.heap.size + 1) w.heap.size) (fun k => k = w.heap.size + 1 ∨ k = w.heap.size)
    (fun k hk => by
      refine ⟨by simp; rcases hk with rfl | rfl <;> omega, fun hd => ?_⟩
      have := hdl.out k hd
      rcases hk with rfl | rfl <;> omega) enters30 JG.cells JG.kept (JG.kept _ _ _ _ hJ.out (fun k hk => Below.heap_alloc _ _ _ (by rcases hk with rfl | rfl <;> omega)) (by simp)) (fun pre T W p t hp _ hj _ hgW => JG.step pre T W p t hp (fun k hk => by
        have e := HGO.out
        rw [hk] at e
        split at e
        · rename_i hi; injection e with e; exact ⟨_, hi, e⟩
        · cases e) hj hgW))
  refine HC.out.mono ?_
  rintro e w5 ⟨rfl, T', hT', ⟨k1, _, _, _⟩, hT5⟩
  have HB5 : Hid (Below w.heap.size w w5) := Lib.hid ⟨hT5.os.trans hB2.out.os, hT5.tape.trans hB2.out.tape, hT5.output.trans hB2.out.output, Nat.le_trans hB2.out.size hT5.size, fun k hk => (hT5.block k (Nat.lt_of_lt_of_le hk hB2.out.size) (fun h => by rcases h with rfl | rfl <;> omega)).trans (hB2.out.block k hk)⟩
  have HE : Hid ((visN g (begF g [x]) g.length).any (fun z => decide (go = some (mb z.1))) = r) := Lib.hid (by
    rw [HGO.out, ← HCR.out]
    unfold comesB
    by_cases hi : idxN g y < g.length
    · rw [← vis_any g _ _ hi]
      simp only [if_pos hi, decide_eq_true hi, Bool.and_true]
      rw [Bool.eq_iff_iff, List.any_eq_true, List.any_eq_true]
      constructor
      · rintro ⟨z, hz, h1⟩
        refine ⟨z, hz, ?_⟩
        have hzl : z.1 < g.length := by
          unfold visN at hz
          obtain ⟨i, h2, rfl⟩ := List.mem_map.1 hz
          simpa using (List.mem_filter.1 h2).1
        have h3 : mb (idxN g y) = mb z.1 := by simpa using h1
        rw [HG.out.inj _ _ hi hzl h3]; simp
      · rintro ⟨z, hz, h1⟩
        refine ⟨z, hz, ?_⟩
        have h3 : z.1 = idxN g y := by simpa using h1
        rw [h3]; simp
    · simp [hi])
  have c1 := cell_of_one k1
  rw [HE.out] at c1
  clear k1 hT5 hT'
  go_wp2_with fail
  go_ret
  exact ⟨rfl, HB5.out⟩
/-- A node's parents, by name. -/
def parN (g : Gr) (x : Txt) : List Txt := if idxN g x < g.length then (psOf g (idxN g x)).map (nmOf g) else []
set_option maxRecDepth 100000 in
set_option maxHeartbeats 4000000 in
theorem parents_any (B : Nat) (S : Nat → Prop) (bg bm : Nat) (va : Value) (D : DataW Unit) (mb : Nat → Nat) (g : Gr) (x : Txt) (w : World) (h : GrAt B S w bg bm va D mb g) (hx : x.length ≤ 4194304) (hpl : ∀ i, (psOf g i).length ≤ 4194304) :
    Calls Try.prog 13 #[.pointer (some ⟨bg, 0, none⟩), .string ⟨x.toArray⟩] w fun e w' => ∃ v', e = .returned v' ∧ OwnS w' w.heap.size v' (parN g x) ∧ Below w.heap.size w w' := by
  obtain ⟨i0, hi, hz0, hz1, hz2⟩ := info_parts Try.info9s
  have HG := Lib.hid h
  have hdl : Hid (∀ k, S k → k < w.heap.size) := Lib.hid (fun k hk => (h.dom k hk).2)
  have c0 := h.c0
  have hl := h.look hx
  by_cases hin : idxN g x < g.length
  · rw [if_pos hin] at hl
    have HP : Hid (parN g x = (psOf g (idxN g x)).map (nmOf g)) := Lib.hid (by unfold parN; rw [if_pos hin])
    obtain ⟨v, _, _, m2, mps⟩ := h.mems _ hin
    have hpl2 := hpl (idxN g x)
    have HDN : Hid (∀ j ∈ psOf g (idxN g x), j < g.length) := Lib.hid (fun j hj => by have := down_lt h.good hj; omega)
    obtain ⟨pa, pc, rfl⟩ := mps.shape
    have HM := Lib.hid mps
    generalize psOf g (idxN g x) = l at *
    generalize hmi : mb (idxN g x) = mi at *
    clear h hmi hin mps hpl
    go_enter Try.func13, Try.ntmps13
    go_wp2_with fail
    go_loopw [6, 22] (fun o i wr => ∃ k : Nat, k ≤ l.length ∧ i = .int .i64 k ∧ Hid (OwnS wr w.heap.size o ((l.take k).map (nmOf g))) ∧ Hid (Below w.heap.size w wr)) (fun _ i _ => l.length - (intOf i).toNat)
    case atStart => exact ⟨0, Nat.zero_le _, rfl, Lib.hid (by simpa using ownS_nil w w.heap.size), Lib.hid (Below.refl _ _)⟩
    case round =>
      obtain ⟨k, hk, rfl, hO, hB⟩ := hrel
      obtain ⟨oa, oc, rfl⟩ := ownS_slice hO.out
      by_cases hlt : k < l.length
      · obtain ⟨pg, po, rfl, hpS, _, _, hpc⟩ := HM.out.at (by omega)
        have p1 := (World.cell?_of_block (w := w) (a := ⟨pg, po + k, none⟩) (hB.out.block pg (hdl.out pg hpS))).trans (hpc k _ (pv_at hlt))
        have hjn : l.getD k 0 < g.length := HDN.out _ (by rw [getD_at hlt]; exact List.getElem_mem hlt)
        obtain ⟨_, j0, _, _, _⟩ := HG.out.mems _ hjn
        have j1 := (World.cell?_of_block (w := w) (a := ⟨mb (l.getD k 0), 0, none⟩) (hB.out.block _ (hdl.out _ (HG.out.smb _ hjn)))).trans j0
        have HT : Hid ((l.take (k + 1)).map (nmOf g) = (l.take k).map (nmOf g) ++ [nmOf g (l.getD k 0)]) := Lib.hid (by rw [take_snoc (d := 0) hlt, List.map_append]; rfl)
        have hdl2 : ((l.take k).map (nmOf g)).length ≤ 4194304 := by simp; omega
        have hsz := hB.out.size
        clear hpc j0 hjn
        generalize (l.take k).map (nmOf g) = d at *
        generalize nmOf g (l.getD k 0) = nm at *
        generalize mb (l.getD k 0) = mj at *
        go_wp2_with (at_builtin; refine wpList_own_src _ rfl _ _ 23 23 rfl w.heap.size 9 i0 (.string ByteArray.empty) 1 16 Try.underlying23 hi hz0 hz1 hz2 rfl (by decide) _ _ _ rfl (World.ownsRow.alloc hO.out _) _ 1 [.string ⟨nm.toArray⟩] rfl (srcS_one _ _) (by unfold maxLen; omega) (by omega) (by simp; omega) ?_)
        intro v5 w5 hown5 hg5
        have O5 : Hid (OwnS w5 w.heap.size v5 (d ++ [nm])) := Lib.hid (ownS_push hown5)
        have B5 : Hid (Below w.heap.size w w5) := Lib.hid ((hB.out.alloc hB.out.size _).grown hg5.gb (by simp; omega) (fun q hq => (World.ownsRow.lt hO.out q hq).1))
        clear hown5 hg5
        go_wp2_with fail
        go_roundw
        case rel => exact ⟨k + 1, by omega, by go_num, by rw [HT.out]; exact O5, B5⟩
        case measure => simp [intOf]; omega
      · have HE : Hid ((l.take k).map (nmOf g) = l.map (nmOf g)) := Lib.hid (by rw [List.take_of_length_le (by omega)])
        go_wp2_with fail
        go_ret
        exact ⟨_, rfl, by rw [HP.out, ← HE.out]; exact hO.out, hB.out⟩
  · rw [if_neg hin] at hl
    have HP : Hid (parN g x = []) := Lib.hid (by unfold parN; rw [if_neg hin])
    clear h hin hpl
    go_enter Try.func13, Try.ntmps13
    go_wp2_with fail
    go_ret
    exact ⟨_, rfl, by rw [HP.out]; exact ownS_nil _ _, Below.refl _ _⟩
end Go.Proofs.Ytfphkbbgbfnhaaa
