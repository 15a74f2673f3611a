/- The walk of the reference's Add. -/
import Derived.Test.YtfphkbbgbfnhaaaDagR
namespace Go.Proofs.Ytfphkbbgbfnhaaa
open Go.RowKit Go.Shelf Go.Maps Go.Lib Go.Sort

theorem Try.info33n : (Try.prog.info? 33).map (fun i => (i.zero, i.size, i.bytes)) = some (some (.agg #[.string ByteArray.empty, .slice none 0 0]), 2, 40) := by kernel_rfl
theorem findN_in {rg : List (Txt × List Txt)} {x : Txt} (h : x ∈ rg.map (·.1)) : ∃ n : Nat, findN rg x = n := ⟨_, by unfold findN; rw [if_pos h]⟩
theorem findN_out {rg : List (Txt × List Txt)} {x : Txt} (h : x ∉ rg.map (·.1)) : findN rg x = -1 := by unfold findN; rw [if_neg h]
theorem ascN_snoc (l : List Txt) (x : Txt) : ascN (l ++ [x]) = withN (ascN l) x := by unfold ascN; rw [List.foldl_append]; rfl
/-- What the reference's Add hands back. -/
def RAddP (S : Nat → Prop) (w : World) (vg : Value) (rg : List (Txt × List Txt)) (x : Txt) (l : List Txt) (e : Ending) (w' : World) : Prop :=
  Below w.heap.size w w' ∧ ((x ∈ rg.map (·.1) ∧ e = .returned (.tuple #[vg, .int .i64 5])) ∨
  (x ∉ rg.map (·.1) ∧ (∃ y ∈ l, y ∉ rg.map (·.1)) ∧ e = .returned (.tuple #[vg, .int .i64 4])) ∨
  (x ∉ rg.map (·.1) ∧ (∀ y ∈ l, y ∈ rg.map (·.1)) ∧ ∃ v', e = .returned (.tuple #[v', .int .i64 0]) ∧ NodesC (fun k => S k ∨ (w.heap.size ≤ k ∧ k < w'.heap.size)) w' v' (rg ++ [(x, ascN l)])))
theorem srcN_one (w : World) (x : ByteArray) (v : Value) (hv : v.oneCell' = true) : Src Try.prog 2 28 (.slice (some ⟨w.heap.size, 0, none⟩) 1 1) 1 [.string x, v] (w.alloc (.cells #[.string x, v] 33)) :=
  Src.ofSlice _ Try.underlying28 _ 1 1 _ rfl (fun j u hj => by
    have h0 := new_five w #[.string x, v] 33
    rw [add_pos, cell_of_row _ _ _ _ _ _ h0]
    rw [Nat.zero_add]
    simpa using hj) (fun u hu => by
    simp at hu
    rcases hu with rfl | rfl
    · rfl
    · exact hv)
/-- A row of nodes of one's own, one more. -/
theorem nodes_push {w w4 w5 : World} {S S3 : Nat → Prop} {B : Nat} {v' vl : Value} {css : List (List Value)} {rg : List (Txt × List Txt)} {x : Txt} {l : List Txt} (hcl : css.length = rg.length) (hc2 : ∀ cs ∈ css, cs.length = 2)
    (hrd : ∀ (j : Nat) (e : Txt × List Txt) (cs : List Value), rg[j]? = some e → css[j]? = some cs → nodeRel S w e cs) (hk : ∀ k, S k → w5.heap[k]? = w.heap[k]?) (hown : w5.ownsRow B 33 2 v' (rg.length + 1) (css.flatten ++ [.string ⟨x.toArray⟩, vl])) (h1 : ∀ u ∈ css.flatten, u.oneCell' = true)
    (hl : StrsC S3 w4 vl l) (hk3 : ∀ k, S3 k → w5.heap[k]? = w4.heap[k]?) (R : Nat → Prop) (hR1 : ∀ k, S k → R k) (hR2 : ∀ k, S3 k → R k) (hR3 : ∀ k, B ≤ k → k < w5.heap.size → R k) : NodesC R w5 v' (rg ++ [(x, l)]) := by
  refine ⟨css ++ [[.string ⟨x.toArray⟩, vl]], by simp [hcl], fun cs hcs => ?_, ?_, fun j e cs he hc => ?_⟩
  · rcases List.mem_append.1 hcs with h | h
    · exact hc2 cs h
    · rw [List.mem_singleton] at h; rw [h]; rfl
  · have hfl : (css ++ [[.string ⟨x.toArray⟩, vl]]).flatten = css.flatten ++ [.string ⟨x.toArray⟩, vl] := by simp
    rw [hfl, List.length_append, List.length_singleton]
    refine (own_cells hown (fun u hu => ?_)).kept (fun k hk => ⟨hR3 k hk.1 hk.2, rfl⟩)
    rcases List.mem_append.1 hu with h | h
    · exact h1 u h
    · simp at h
      rcases h with rfl | rfl
      · rfl
      · obtain ⟨a, c, e⟩ := hl.shape
        rw [e]; rfl
  · by_cases hj : j < rg.length
    · rw [List.getElem?_append_left hj] at he
      rw [List.getElem?_append_left (by rw [hcl]; exact hj)] at hc
      exact node_keeps _ _ _ _ _ _ (hrd j e cs he hc) (fun k hS => ⟨hR1 k hS, hk k hS⟩)
    · have hj2 : j = rg.length := by
        have := (List.getElem?_eq_some_iff.1 he).1
        simp at this; omega
      subst hj2
      rw [List.getElem?_append_right (Nat.le_refl _), Nat.sub_self] at he
      rw [← hcl, List.getElem?_append_right (Nat.le_refl _), Nat.sub_self] at hc
      simp at he hc
      subst he hc
      exact ⟨vl, rfl, hl.kept (fun k hS => ⟨hR2 k hS, hk3 k hS⟩)⟩
theorem ownN_empty {w : World} {B : Nat} (h : B ≤ w.heap.size) : (w.alloc (.cells #[] 33)).ownsRow B 33 2 (.slice (some ⟨w.heap.size, 0, none⟩) 0 0) 0 [] :=
  ⟨rfl, Or.inr ⟨w.heap.size, 0, #[], rfl, h, new_five w _ _, Nat.le_refl _, Nat.zero_le _, rfl, rfl⟩⟩
set_option maxRecDepth 100000 in
set_option maxHeartbeats 8000000 in
theorem radd_any (S S2 : Nat → Prop) (vg v2 : Value) (rg : List (Txt × List Txt)) (x : Txt) (l : List Txt) (w : World) (hS : ∀ k, S k → k < w.heap.size) (h : NodesC S w vg rg) (hgl : rg.length < 65536) (hS2 : ∀ k, S2 k → k < w.heap.size) (hv : StrsC S2 w v2 l) (hl : l.length ≤ 4194304) :
    Calls Try.prog 27 #[vg, .string ⟨x.toArray⟩, v2] w (RAddP S w vg rg x l) := by
  obtain ⟨i0, hi, hz0, hz1, hz2⟩ := info_parts Try.info33n
  have HF := Lib.hid (fun (W : World) (hb : Below w.heap.size w W) y => find_any S vg rg y W (RowsC.kept node_keeps h (fun k hk => ⟨hk, hb.block k (hS k hk)⟩)) (by omega))
  have HF0 := Lib.hid (HF.out w (Below.refl _ _) x)
  obtain ⟨ga, gc, rfl⟩ := RowsC.shape h
  have H := Lib.hid h
  have HV := Lib.hid hv
  obtain ⟨la, lc, rfl⟩ := hv.shape
  have HW0 := Lib.hid (Below.refl w.heap.size w)
  by_cases hin : x ∈ rg.map (·.1)
  · obtain ⟨n, hn⟩ := findN_in hin
    have HI := Lib.hid hin
    rw [hn] at HF0
    have g0 : decide ((0 : Int) ≤ (n : Int)) = true := decide_eq_true (by omega)
    clear h hv hin hn
    go_enter Try.func27, Try.ntmps27
    go_wp2_with fail
    refine HF0.out.mono ?_
    rintro e w1 ⟨rfl, rfl⟩
    go_wp2_with fail
    go_ret2
    exact ⟨HW0.out, Or.inl ⟨HI.out, rfl⟩⟩
  · have HI := Lib.hid hin
    rw [findN_out hin] at HF0
    clear h hv hin
    go_enter Try.func27, Try.ntmps27
    go_wp2_with fail
    refine HF0.out.mono ?_
    rintro e w1 ⟨rfl, rfl⟩
    go_wp2_with fail
    go_loopw [8, 9] (fun o i wr => ∃ k : Nat, k ≤ l.length ∧ i = .int .i64 k ∧ Hid (StrsC (fun q => w.heap.size ≤ q ∧ q < wr.heap.size) wr o (ascN (l.take k))) ∧ Hid (∀ y ∈ l.take k, y ∈ rg.map (·.1)) ∧ Hid (Below w.heap.size w wr)) (fun _ i _ => l.length - (intOf i).toNat)
    case atStart => exact ⟨0, Nat.zero_le _, rfl, Lib.hid (CellsC.nil _ _ none 0 1), Lib.hid (by simp), HW0⟩
    case round =>
      obtain ⟨k, hk, rfl, hO, hA, hW⟩ := hrel
      have hsz := hW.out.size
      by_cases hlt : k < l.length
      · obtain ⟨pg, po, rfl, hpS, _, _, hpc⟩ := HV.out.at (by omega)
        have p1 := (World.cell?_of_block (w := w) (a := ⟨pg, po + k, none⟩) (hW.out.block pg (hS2 pg hpS))).trans (hpc k hlt)
        have HT : Hid (l.take (k + 1) = l.take k ++ [l.getD k []]) := Lib.hid (take_snoc hlt)
        have HGE : Hid (l.getD k [] ∈ l) := Lib.hid (by rw [getD_at hlt]; exact List.getElem_mem hlt)
        have HFk := Lib.hid (HF.out wr hW.out (l.getD k []))
        clear hpc
        by_cases hj : l.getD k [] ∈ rg.map (·.1)
        · obtain ⟨n, hn⟩ := findN_in hj
          rw [hn] at HFk
          have g0 : decide ((n : Int) < 0) = false := decide_eq_false (by omega)
          have HJ := Lib.hid hj
          have hal : (ascN (l.take k)).length ≤ 4194304 := Nat.le_trans (ascN_len _) (by simp; omega)
          have HWI := Lib.hid (with_any _ _ (ascN (l.take k)) (l.getD k []) wr (fun q hq => hq.2) hO.out (asc_ascN _) hal)
          have HAS : Hid (ascN (l.take (k + 1)) = withN (ascN (l.take k)) (l.getD k [])) := Lib.hid (by rw [HT.out, ascN_snoc])
          obtain ⟨oa, oc, rfl⟩ := hO.out.shape
          clear hj hn hal
          generalize ascN (l.take k) = d at *
          generalize l.getD k [] = y at *
          go_wp2_with fail
          refine HFk.out.mono ?_
          rintro e w1 ⟨rfl, rfl⟩
          go_wp2_with fail
          refine HWI.out.mono ?_
          rintro e w5 ⟨v5, rfl, o5, b5⟩
          have B5 : Hid (Below w.heap.size w w5) := Lib.hid (hW.out.trans (b5.mono hW.out.size))
          have O5 : Hid (StrsC (fun q => w.heap.size ≤ q ∧ q < w5.heap.size) w5 v5 (ascN (l.take (k + 1)))) := Lib.hid (by
            rw [HAS.out]
            exact o5.kept (fun q hq => ⟨by have := b5.size; have := hW.out.size; rcases hq with hq | hq <;> omega, rfl⟩))
          have A5 : Hid (∀ z ∈ l.take (k + 1), z ∈ rg.map (·.1)) := Lib.hid (fun z hz => by
            rw [HT.out] at hz
            rcases List.mem_append.1 hz with hz | hz
            · exact hA.out z hz
            · rw [List.mem_singleton] at hz; rw [hz]; exact HJ.out)
          clear o5 b5
          go_wp2_with fail
          go_roundw
          case rel => exact ⟨k + 1, by omega, by go_num, O5, A5, B5⟩
          case measure => simp [intOf]; omega
        · rw [findN_out hj] at HFk
          have HJ := Lib.hid hj
          clear hj
          generalize l.getD k [] = y at *
          go_wp2_with fail
          refine HFk.out.mono ?_
          rintro e w1 ⟨rfl, rfl⟩
          go_wp2_with fail
          go_ret2
          exact ⟨hW.out, Or.inr (Or.inl ⟨HI.out, ⟨y, HGE.out, HJ.out⟩, rfl⟩)⟩
      · have hkl : k = l.length := by omega
        have HALL : Hid (∀ y ∈ l, y ∈ rg.map (·.1)) := Lib.hid (by have := hA.out; rwa [hkl, List.take_of_length_le (Nat.le_refl _)] at this)
        have HO2 : Hid (StrsC (fun q => w.heap.size ≤ q ∧ q < wr.heap.size) wr _ (ascN l)) := Lib.hid (by have := hO.out; rwa [hkl, List.take_of_length_le (Nat.le_refl _)] at this)
        obtain ⟨css, e1, e2, e3, e4⟩ := H.out
        have HRD := Lib.hid e4
        have HCL := Lib.hid e1
        have HC2 := Lib.hid e2
        have HCS := Lib.hid e3
        obtain ⟨oa, oc, rfl⟩ := hO.out.shape
        have hd : decide ((65536 : Int) ≤ (rg.length : Int)) = false := decide_eq_false (by omega)
        have hn9 : rg.length ≤ 4194304 := by omega
        clear hkl e1 e2 e3 e4 hA hO HF hgl
        obtain ⟨n, hn⟩ : ∃ n, rg.length = n := ⟨_, rfl⟩
        have HN := Lib.hid hn
        rw [hn] at hd hn9 HCS ⊢
        clear hn
        go_wp2_with (at_builtin; refine wpList_own_src _ rfl _ _ 28 28 rfl w.heap.size 33 i0 (.agg #[.string ByteArray.empty, .slice none 0 0]) 2 40 Try.underlying28 hi hz0 hz1 hz2 rfl (by decide) _ _ _ rfl (ownN_empty hsz) _ n css.flatten rfl (CellsC.src (HCS.out.kept (fun k hk => ⟨hk, (Below.heap_alloc _ _ _ (Nat.lt_of_lt_of_le (hS k hk) hsz)).trans (hW.out.block k (hS k hk))⟩)) Try.underlying28) (by unfold maxLen; omega) (by omega) (by simp; omega) ?_)
        intro v5 w5 hown5 hg5
        have O5 : Hid (w5.ownsRow w.heap.size 33 2 v5 n css.flatten) := Lib.hid (by simpa using hown5)
        have B5 : Hid (Below w.heap.size w w5) := Lib.hid ((hW.out.alloc hsz _).grown hg5.gb (by simp; omega) (fun q hq => (World.ownsRow.lt (ownN_empty hsz) q hq).1))
        have K5 : Hid (∀ q, q < wr.heap.size → w5.heap[q]? = wr.heap[q]?) := Lib.hid (fun q hq => (hg5.gb.block q (by simp; omega) (fun e => by simp [Value.ownBlock] at e; omega)).trans (Below.heap_alloc _ _ _ hq))
        have hs5 : wr.heap.size ≤ w5.heap.size := by have := hg5.size; simp at this; omega
        have N5 : Hid (∀ q, v5.ownBlock = some q → wr.heap.size ≤ q) := Lib.hid (fun q hq => by
          rcases hg5.own q hq with e | e
          · simp [Value.ownBlock] at e; omega
          · simp at e; omega)
        obtain ⟨a5, c5, rfl⟩ := row_slice O5.out
        clear hown5 hg5
        go_wp2_with (at_builtin; refine wpList_own_src _ rfl _ _ 28 28 rfl w.heap.size 33 i0 (.agg #[.string ByteArray.empty, .slice none 0 0]) 2 40 Try.underlying28 hi hz0 hz1 hz2 rfl (by decide) _ _ _ rfl (World.ownsRow.alloc O5.out _) _ 1 _ rfl (srcN_one _ _ _ rfl) (by unfold maxLen; omega) (by omega) (by simp; omega) ?_)
        intro v6 w6 hown6 hg6
        have B6 : Hid (Below w.heap.size w w6) := Lib.hid ((B5.out.alloc B5.out.size _).grown hg6.gb (by simp; omega) (fun q hq => (World.ownsRow.lt O5.out q hq).1))
        have K6 : Hid (∀ q, q < wr.heap.size → w6.heap[q]? = wr.heap[q]?) := Lib.hid (fun q hq => (hg6.gb.block q (by simp; omega) (fun e => by have := N5.out q e.symm; omega)).trans ((Below.heap_alloc _ _ _ (by omega)).trans (K5.out q hq)))
        have O6 := Lib.hid hown6
        obtain ⟨a6, c6, rfl⟩ := row_slice hown6
        have hs6 : wr.heap.size ≤ w6.heap.size := by have := hg6.size; simp at this; omega
        clear hown6 hg6
        go_wp2_with fail
        go_ret2
        refine ⟨B6.out, Or.inr (Or.inr ⟨HI.out, HALL.out, _, rfl, ?_⟩)⟩
        have hn := HN.out
        subst hn
        exact nodes_push (css := css) HCL.out HC2.out HRD.out (fun q hq => B6.out.block q (hS q hq)) O6.out HCS.out.2.1 HO2.out (fun q hq => K6.out q hq.2) _ (fun q hq => Or.inl hq) (fun q hq => Or.inr ⟨hq.1, by omega⟩) (fun q h1 h2 => Or.inr ⟨h1, h2⟩)
end Go.Proofs.Ytfphkbbgbfnhaaa
