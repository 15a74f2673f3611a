/- The walks of reached, Missing, Ancestors. -/
import Derived.Test.YtfphkbbgbfnhaaaDagF
namespace Go.Proofs.Ytfphkbbgbfnhaaa
open Go.RowKit Go.Shelf Go.Maps Go.Lib Go.Sort

theorem cells_setCell {W : World} {k : Nat} (a : Addr) (v : Value) (h : ∃ o : Obj, W.heap[k]? = some o ∧ o.isCells = true) : ∃ o : Obj, (W.setCell a v).heap[k]? = some o ∧ o.isCells = true := by
  obtain ⟨o, h1, h2⟩ := h
  by_cases e : k = a.block
  · subst e
    obtain ⟨hlt, hk⟩ := Array.getElem?_eq_some_iff.1 h1
    refine ⟨_, (show (W.heap.modify a.block _)[a.block]? = some _ from by rw [Array.getElem?_eq_getElem (by rw [Array.size_modify]; exact hlt), Array.getElem_modify_self]), ?_⟩
    rw [hk]
    cases o <;> first | rfl | (simp [Obj.isCells] at h2)
  · exact ⟨o, (Below.heap_setCell _ _ _ _ e).trans h1, h2⟩
theorem cells_kept {W W' : World} {k : Nat} (h : ∃ o : Obj, W.heap[k]? = some o ∧ o.isCells = true) (hk : W'.heap[k]? = W.heap[k]?) : ∃ o : Obj, W'.heap[k]? = some o ∧ o.isCells = true := by
  obtain ⟨o, h1, h2⟩ := h
  exact ⟨o, hk.trans h1, h2⟩
theorem cells_of_addr {W : World} {b o : Nat} {v : Value} (h : W.cell? ⟨b, o, none⟩ = some v) : ∃ o : Obj, W.heap[b]? = some o ∧ o.isCells = true := cells_of_cell h
open Classical in
/-- Which places are reached. -/
noncomputable def reachB (g : Gr) (b : Nat → Bool) (p : Nat) : Bool := decide (From g b p)
open Classical in
theorem vis_any (g : Gr) (b : Nat → Bool) (p : Nat) (hp : p < g.length) : (visN g b g.length).any (fun x => x.1 == p) = reachB g b p := by
  unfold visN reachB
  rw [Bool.eq_iff_iff, List.any_eq_true]
  simp only [List.mem_map, List.mem_filter, List.mem_reverse, List.mem_range, decide_eq_true_eq, beq_iff_eq]
  constructor
  · rintro ⟨x, ⟨i, ⟨h1, h2⟩, rfl⟩, h3⟩
    exact h3 ▸ h2
  · intro h
    exact ⟨_, ⟨p, ⟨hp, h⟩, rfl⟩, rfl⟩
/-- What the closure of reached holds. -/
def JR (ba cb n : Nat) (pre : List (Nat × Bool)) (T : Nat → Prop) (W : World) : Prop := Marks W ba cb n (fun p => pre.any (fun x => x.1 == p)) ∧ (∃ o : Obj, W.heap[cb]? = some o ∧ o.isCells = true) ∧ ba ≠ cb ∧ ∀ k, T k ↔ (k = ba ∨ k = cb)
theorem JR.cells {ba cb n : Nat} (pre : List (Nat × Bool)) (T : Nat → Prop) (W : World) (h : JR ba cb n pre T W) : ∀ k, T k → ∃ o : Obj, W.heap[k]? = some o ∧ o.isCells = true := by
  intro k hk
  rcases (h.2.2.2 k).1 hk with rfl | rfl
  · exact cells_of_addr h.1.c
  · exact h.2.1
theorem JR.kept {ba cb n : Nat} (pre : List (Nat × Bool)) (T : Nat → Prop) (W W' : World) (h : JR ba cb n pre T W) (hk : ∀ k, T k → W'.heap[k]? = W.heap[k]?) (hs : W.heap.size ≤ W'.heap.size) : JR ba cb n pre T W' := by
  have h1 := hk ba ((h.2.2.2 ba).2 (Or.inl rfl))
  have h2 := hk cb ((h.2.2.2 cb).2 (Or.inr rfl))
  exact ⟨h.1.kept h1 h2 hs, cells_kept h.2.1 h2, h.2.2⟩
theorem JR.step {mb : Nat → Nat} {ba cb n p : Nat} {t : Bool} {pre : List (Nat × Bool)} {T : Nat → Prop} {W : World} (h : JR ba cb n pre T W) (hp : p < n) (hn : n ≤ 4194304) (hm : W.cell? ⟨mb p, 1, none⟩ = some (.int .i64 (p : Int))) :
    Calls Try.prog 42 (#[.pointer (some ⟨mb p, 0, none⟩), .bool t] ++ #[.pointer (some ⟨ba, 0, none⟩)]) W fun e W' => e = .returned (.tuple #[]) ∧ ∃ T', (∀ k, T' k → T k ∨ W.heap.size ≤ k) ∧ JR ba cb n (pre ++ [(p, t)]) T' W' ∧ Turns T W W' := by
  refine (reached1_any ba cb n (mb p) p _ (.bool t) W h.1 hp hn hm).mono ?_
  rintro e W' ⟨rfl, rfl⟩
  have hb : ∀ q, q ≠ cb → (W.setCell ⟨cb, p, none⟩ (.bool true)).drew.heap[q]? = W.heap[q]? := fun q hq => Below.heap_setCell _ _ _ _ hq
  refine ⟨rfl, T, fun k hk => Or.inl hk, ⟨⟨?_, ?_⟩, ?_, h.2.2⟩, ⟨rfl, rfl, rfl, by simp, fun k _ hk => hb k (fun e => hk ((h.2.2.2 k).2 (Or.inr e)))⟩⟩
  · exact (World.cell?_of_block (w := W) (hb ba h.2.2.1)).trans h.1.c
  · refine Bits.kept (h.1.r.set hp (f' := fun q => (pre ++ [(p, t)]).any (fun x => x.1 == q)) (fun q _ => ?_)) rfl (Nat.le_refl _)
    rw [List.any_append]
    by_cases e : q = p
    · subst e; simp
    · have e2 : (p == q) = false := beq_eq_false_iff_ne.2 (fun h => e h.symm)
      simp [e, e2]
  · exact cells_setCell _ _ h.2.1
theorem enters42 : ∀ args w, (callFunc 42 args).run Try.prog w = .ok (.enter 42 args) w := enters_of Try.func42 (by kernel_rfl) rfl
set_option maxRecDepth 100000 in
set_option maxHeartbeats 4000000 in
theorem reached_any (B : Nat) (S S2 : Nat → Prop) (bg bm : Nat) (va v : Value) (D : DataW Unit) (mb : Nat → Nat) (g : Gr) (l : List Txt) (w : World) (h : GrAt B S w bg bm va D mb g) (hS2 : ∀ k, S2 k → k < w.heap.size) (hv : StrsC S2 w v l) (hl : l.length ≤ 4194304) (hx : ∀ x ∈ l, x.length ≤ 4194304) :
    Calls Try.prog 32 #[.pointer (some ⟨bg, 0, none⟩), v] w fun e w' => ∃ cb, e = .returned (.slice (some ⟨cb, 0, none⟩) g.length g.length) ∧ Bits w' cb g.length (reachB g (begF g l)) ∧ (∃ o : Obj, w'.heap[cb]? = some o ∧ o.isCells = true) ∧ w.heap.size ≤ cb ∧ Below w.heap.size w w' := by
  obtain ⟨i0, hi, hz0, hz1, hz2⟩ := info_parts Try.info4b
  have HW := Lib.hid (fun (W : World) (hb : Below w.heap.size w W) K cap J T0 h1 h2 h3 h4 h5 h6 => walk_any B S S2 bg bm va v D mb g l W (h.below hb) (fun k hk => Nat.lt_of_lt_of_le (hS2 k hk) hb.size) (hv.kept (fun k hk => ⟨hk, hb.block k (hS2 k hk)⟩)) hl hx K cap J T0 h1 h2 h3 h4 h5 h6)
  have HG := Lib.hid h
  have c1 := h.c1
  obtain ⟨va1, vc1, rfl⟩ := (own_cells h.row (pv_one _ _)).shape
  obtain ⟨la, lc, rfl⟩ := hv.shape
  obtain ⟨n, hn⟩ : ∃ n, g.length = n := ⟨_, rfl⟩
  have HN := Lib.hid hn
  have hgl := h.len
  rw [hn] at hgl c1 ⊢
  clear hn h hv hx
  go_enter Try.func32, Try.ntmps32
  go_upto_region 2 with (at_make; refine wpList_make_full _ rfl _ _ 66 rfl w.heap.size 4 i0 (.bool false) 1 Try.underlying66 hi hz0 hz1 .i64 .i64 _ _ n rfl rfl (by omega) (by omega) (by rw [hz2]; omega) (by unfold maxLen; omega) (by omega) ?_; intro w1 hown hgrow)
  have hlt1 : w.heap.size < w1.heap.size := (hown.lt _ rfl).2
  have hB1 : Hid (Below w.heap.size w (w1.alloc (.cells #[.slice (some ⟨w.heap.size, 0, none⟩) n n] 66))) := Lib.hid (((Below.refl _ w).grown hgrow (by omega) (fun j hj => by cases hj)).alloc (by omega) _)
  have hJ : Hid (JR w1.heap.size w.heap.size n [] (fun k => k = w1.heap.size ∨ k = w.heap.size) (w1.alloc (.cells #[.slice (some ⟨w.heap.size, 0, none⟩) n n] 66))) := Lib.hid ⟨⟨cell_of_one (new_five w1 _ _), (Bits.made hown hlt1).kept (Below.heap_alloc _ _ _ (by omega)) (by simp)⟩, cells_kept (by
    rcases hown.2 with ⟨e, _⟩ | ⟨b, cap, cur, e, _, e3, _⟩
    · cases e
    · injection e with e _ _
      injection e with e
      injection e with e _ _
      subst e
      exact ⟨_, e3, rfl⟩) (Below.heap_alloc _ _ _ (by omega)), by omega, fun k => Iff.rfl⟩
  have sB : w1.heap.size < (w1.alloc (.cells #[.slice (some ⟨w.heap.size, 0, none⟩) n n] 66)).heap.size := by simp
  clear hown hgrow
  generalize w1.alloc (.cells #[.slice (some ⟨w.heap.size, 0, none⟩) n n] 66) = wB at *
  generalize hba : w1.heap.size = ba at *
  clear hba
  obtain ⟨cb, hcb⟩ : ∃ cb, w.heap.size = cb := ⟨_, rfl⟩
  have HCB := Lib.hid hcb
  rw [hcb] at hJ hlt1
  rw [hcb]
  go_wp2_with fail
  have HC := Lib.hid (HW.out wB hB1.out 42 #[.pointer (some ⟨ba, 0, none⟩)] (JR ba cb n) (fun k => k = ba ∨ k = cb) (fun k hk => by have := sB; have := HCB.out; refine ⟨by rcases hk with rfl | rfl <;> omega, fun hd => ?_⟩; have := (HG.out.domlt k hd).2; rcases hk with rfl | rfl <;> omega) enters42 JR.cells JR.kept hJ.out (fun pre T W p t hp _ hj hTd hgW => JR.step (mb := mb) hj (by rw [← HN.out]; exact hp) (by omega) ((hgW.mems p hp).choose_spec.2.1)))
  clear hcb
  refine HC.out.mono ?_
  rintro e w5 ⟨rfl, T', hT', hJ5, hT5⟩
  have c5 := hJ5.1.c
  go_wp2_with fail
  go_ret
  have e2 := HN.out
  have e3 := HCB.out
  refine ⟨cb, rfl, ?_, hJ5.2.1, by omega, ?_⟩
  · refine hJ5.1.r.congr (fun p hp => ?_)
    rw [← vis_any g (begF g l) p (by omega)]
  · refine ⟨hT5.os.trans hB1.out.os, hT5.tape.trans hB1.out.tape, hT5.output.trans hB1.out.output, Nat.le_trans hB1.out.size hT5.size, fun k hk => ?_⟩
    exact (hT5.block k (Nat.lt_of_lt_of_le hk hB1.out.size) (fun h => by rcases h with rfl | rfl <;> omega)).trans (hB1.out.block k hk)
end Go.Proofs.Ytfphkbbgbfnhaaa
