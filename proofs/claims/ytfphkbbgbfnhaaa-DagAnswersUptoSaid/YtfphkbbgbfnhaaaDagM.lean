/- Members put in order, each once: the walks of sorted and what it calls. -/
import Derived.Test.YtfphkbbgbfnhaaaDagK
import Derived.Test.YtfphkbbgbfnhaaaDagL
import Derived.Test.YtfphkbbgbfnhaaaShelg
import Derived.Lib.SliceRun
import Derived.Laws.IdiomCopy
import Derived.Deep.Upon
namespace Go.Proofs.Ytfphkbbgbfnhaaa
open Go.RowKit Go.Shelf Go.Maps Go.Lib Go.Sort

theorem lt_cmp (a b : Txt) : decide (Lib.compareBytes a b < 0) = decide (a < b) := by
  rw [cmp_lt]
  by_cases h : a < b
  · simp [h]
  · by_cases h2 : b < a
    · simp [h, h2]
    · simp [h, h2]
set_option maxRecDepth 100000 in
set_option maxHeartbeats 4000000 in
theorem cmp_any (mp mq : Nat) (a b : Txt) (W : World) (h1 : W.cell? ⟨mp, 0, none⟩ = some (.string ⟨a.toArray⟩)) (h2 : W.cell? ⟨mq, 0, none⟩ = some (.string ⟨b.toArray⟩)) :
    Calls Try.prog 47 #[.pointer (some ⟨mp, 0, none⟩), .pointer (some ⟨mq, 0, none⟩)] W fun e W' => e = .returned (.int .i64 (Lib.compareBytes a b)) ∧ ∃ q, W' = W.drewN q := by
  have HC := Lib.hid (fun (W2 : World) => Try.strings_Compare ⟨a.toArray⟩ ⟨b.toArray⟩ W2)
  have e : Lib.compareBytes (⟨a.toArray⟩ : ByteArray).data.toList (⟨b.toArray⟩ : ByteArray).data.toList = Lib.compareBytes a b := by simp
  rw [e] at HC
  clear e
  go_enter Try.func47, Try.ntmps47
  go_wp2_with fail
  go_quiet ((go_at_call 48; exact Calls.quiet_of_same (HC.out _)))
  go_wp2_with fail
  go_ret
  exact ⟨rfl, _, rfl⟩
theorem sortWorld_block {α : Type} [Inhabited α] (enc : α → Value) (w : World) (blk off m : Nat) (dk : Array α) (os : Array Obj) {k : Nat} (hk : k < w.heap.size) (hne : k ≠ blk) : (sortWorld enc w blk off m dk os).heap[k]? = w.heap[k]? := by
  unfold sortWorld
  rw [heap_grow_old _ os (by simp [putRow, mapBlock, Sort.ahead]; exact hk)]
  have : blk ≠ k := fun e => hne e.symm
  simp [putRow, mapBlock, Sort.ahead, Array.getElem?_modify, this]
theorem sortWorld_grown {α : Type} [Inhabited α] (enc : α → Value) (w : World) (blk off m : Nat) (dk : Array α) (os : Array Obj) : w.grownBy (sortWorld enc w blk off m dk os) (some blk) :=
  ⟨rfl, rfl, rfl, by simp [sortWorld, grow, putRow, mapBlock, Sort.ahead], fun _ hk hne => sortWorld_block enc w blk off m dk os hk (fun e => hne (by rw [e]))⟩
def encF (mb : Nat → Nat) {n : Nat} (p : Fin n) : Value := .pointer (some ⟨mb p.1, 0, none⟩)
def cfF (g : Gr) (p q : Fin g.length) : Int := Lib.compareBytes (nmOf g p.1) (nmOf g q.1)
theorem ltF (g : Gr) (p q : Fin g.length) : ltOf (cfF g) p q = decide (nmOf g p.1 < nmOf g q.1) := lt_cmp _ _
theorem swoF (g : Gr) : SWO (ltOf (cfF g)) where
  irrefl x := by rw [ltF]; exact decide_eq_false (t_irrefl _)
  trans x y z h1 h2 := by
    rw [ltF, decide_eq_true_eq] at *
    exact t_trans h1 h2
  ntrans x y z h1 h2 := by
    rw [ltF, decide_eq_false_iff_not] at *
    intro h3
    rcases Classical.em (nmOf g y.1 < nmOf g x.1) with h4 | h4
    · exact h2 (t_trans h4 h3)
    · have e := t_tri _ _ h1 h4
      rw [← e] at h2
      exact h2 h3
theorem totF (g : Gr) (hg : Good g) (x y : Fin g.length) (h1 : ltOf (cfF g) x y = false) (h2 : ltOf (cfF g) y x = false) : x = y := by
  rw [ltF, decide_eq_false_iff_not] at *
  exact Fin.ext (nm_inj hg x.2 y.2 (t_tri _ _ h1 h2))
def finL (n : Nat) (l : List Nat) (h : ∀ i ∈ l, i < n) : List (Fin n) := l.attach.map (fun x => ⟨x.1, h x.1 x.2⟩)
theorem finL_val (n : Nat) (l : List Nat) (h : ∀ i ∈ l, i < n) : (finL n l h).map (·.1) = l := by
  unfold finL
  rw [List.map_map]
  exact List.attach_map_subtype_val l
theorem finL_enc (mb : Nat → Nat) {n : Nat} (ys : List (Fin n)) : ys.map (encF mb) = pv mb (ys.map (·.1)) := by unfold pv encF; rw [List.map_map]; rfl
theorem enters47 : ∀ args w, (callFunc 47 args).run Try.prog w = .ok (.enter 47 args) w := enters_of Try.func47 (by kernel_rfl) rfl
/-- slices.SortFunc on members of a graph, by their names. -/
theorem sortM_any (B B2 : Nat) (S : Nat → Prop) (bg bm : Nat) (va v : Value) (D : DataW Unit) (mb : Nat → Nat) (g : Gr) (l : List Nat) (w : World) (h : GrAt B S w bg bm va D mb g) (ho : w.ownsRow B2 59 1 v l.length (pv mb l)) (hvS : ∀ k, v.ownBlock = some k → ¬ S k) (hl : ∀ i ∈ l, i < g.length) (hll : l.length ≤ 4194304) :
    Calls Try.prog 46 #[v, .func (.func 47) #[] #[]] w fun e w' => e = .returned (.tuple #[]) ∧ ∃ l2, w'.ownsRow B2 59 1 v l.length (pv mb l2) ∧ l2.Perm l ∧ l2.Pairwise (fun a b => ¬ nmOf g b < nmOf g a) ∧ w.grownBy w' v.ownBlock := by
  by_cases h0 : l = []
  · subst h0
    obtain ⟨a, c, rfl⟩ := row_slice ho
    refine (Try.slices_SortFunc_none (α := Nat) a c _ w).mono fun e w' ⟨he, hw⟩ => ?_
    subst hw
    exact ⟨he, [], ho, List.Perm.refl _, List.Pairwise.nil, kb_refl _ _⟩
  · have hne : v ≠ .slice none 0 0 := fun e => by
      subst e
      obtain ⟨a, c, e2⟩ := row_slice ho
      injection e2 with _ e3 _
      exact h0 (List.length_eq_zero_iff.1 e3.symm)
    have hpos : 0 < g.length := by
      obtain ⟨x, hx⟩ := List.exists_mem_of_ne_nil l h0
      have := hl x hx; omega
    haveI : Inhabited (Fin g.length) := ⟨⟨0, hpos⟩⟩
    have hv := finL_val g.length l hl
    generalize finL g.length l hl = ys at hv
    subst hv
    have hO : w.ownsRow B2 59 1 v (ys.map (·.1)).length (ys.map (encF mb)) := by rw [finL_enc]; exact ho
    obtain ⟨b, cap, hvv, hg1, hg2, hg3, hg4, hyl, hH⟩ := holds_of_ownsRow hO hne
    subst hvv
    have hbS : ¬ S b := hvS b rfl
    have hsz : ys.toArray.size = (ys.map (·.1)).length := by simp
    have hcr : CmpReads Try.prog 47 #[] (encF mb) (cfF g) b 0 ys.toArray.size w := fun m os dk _ x y => by
      obtain ⟨_, m0, _, _, _⟩ := h.mems x.1 x.2
      obtain ⟨_, q0, _, _, _⟩ := h.mems y.1 y.2
      have hb : ∀ i, i < g.length → (sortWorld (encF mb) w b 0 m dk os).heap[mb i]? = w.heap[mb i]? := fun i hi => sortWorld_block _ _ _ _ _ _ _ (h.dom _ (h.smb i hi)).2 (fun e => hbS (by rw [← e]; exact h.smb i hi))
      exact cmp_any (mb x.1) (mb y.1) (nmOf g x.1) (nmOf g y.1) _ ((World.cell?_of_block (w := w) (a := ⟨mb x.1, 0, none⟩) (hb _ x.2)).trans m0) ((World.cell?_of_block (w := w) (a := ⟨mb y.1, 0, none⟩) (hb _ y.2)).trans q0)
    have hc := Try.slices_SortFunc_total (encF mb) (fun _ => rfl) (cfF g) (swoF g) 47 #[] b 0 cap ys.toArray w enters47 hcr.lays hH hg2 (by rw [hsz]; omega) (totF g h.good)
    rw [hsz] at hc
    refine hc.mono fun e w' ⟨he, n, os, hw⟩ => ?_
    have hml : (ys.toArray.toList.mergeSort fun x y => !ltOf (cfF g) y x).length = (ys.map (·.1)).length := by simp
    have hup := ownsRow_putRow (enc := encF mb) (q := n) (k := (ys.map (·.1)).length) (ys := ys.toArray.toList.mergeSort fun x y => !ltOf (cfF g) y x) hO hml (Nat.le_refl _)
    rw [List.take_of_length_le (by rw [hml]; exact Nat.le_refl _), finL_enc] at hup
    refine ⟨he, (ys.toArray.toList.mergeSort fun x y => !ltOf (cfF g) y x).map (·.1), ?_, ?_, ?_, ?_⟩
    · rw [hw]
      refine own_below hup (fun k _ hk => ?_)
      unfold sortWorld
      exact heap_grow_old _ os hk
    · exact (List.mergeSort_perm _ _).map _
    · rw [List.pairwise_map]
      have hs := List.pairwise_mergeSort (le := fun x y => !ltOf (cfF g) y x) (fun a b c h1 h2 => by
        have := (swoF g).ntrans c b a (by simpa using h2) (by simpa using h1)
        simpa using this) (fun a b => by
        rw [ltF, ltF]
        rcases Classical.em (nmOf g b.1 < nmOf g a.1) with h1 | h1
        · simp [h1, t_asymm h1]
        · simp [h1]) ys.toArray.toList
      refine hs.imp (fun {a b} h1 => ?_)
      rw [ltF] at h1
      simpa using h1
    · rw [hw]; exact sortWorld_grown _ _ _ _ _ _ _
end Go.Proofs.Ytfphkbbgbfnhaaa
