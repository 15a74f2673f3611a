/- A row of one's own whose block bears a mark (what a string turned into bytes leaves), and appends onto it. -/
import Derived.Test.YtdolonkeanlaoaaDoorBase
import Derived.Deep.MidRow
namespace Go.Proofs.YtdolonkeanlaoaaDoor
open Go.RowKit

/-- A slice of one's own, at or behind block B, that holds xs, each of one cell; whatever the block's mark is, it covers none of the row. -/
def RowM (w : World) (B : Nat) (v : Value) (xs : List Value) : Prop :=
  xs = [] ∧ v = .slice none 0 0 ∨ ∃ g cap, v = .slice (some ⟨g, 0, none⟩) xs.length cap ∧ B ≤ g ∧ g < w.heap.size ∧ xs.length ≤ cap ∧ cap ≤ maxLen ∧ w.there g 0 cap ∧ w.rangeAt g 0 xs
theorem kb_setCells (g : Nat) (vs : List Value) (o : Nat) (w : World) : w.grownBy (w.setCells g o vs) (some g) := by
  induction vs generalizing o w with
  | nil => exact kb_refl w _
  | cons v r ih => exact kb_trans (kb_set w g o v) (ih (o + 1) _)
theorem rangeAt_split {w : World} {g : Nat} {xs ys : List Value} (h1 : w.rangeAt g 0 xs) (h2 : w.rangeAt g xs.length ys) : w.rangeAt g 0 (xs ++ ys) := by
  intro j v hj
  by_cases hl : j < xs.length
  · rw [List.getElem?_append_left hl] at hj
    exact h1 j v hj
  · rw [List.getElem?_append_right (by omega)] at hj
    have := h2 _ v hj
    rwa [show xs.length + (j - xs.length) = 0 + j by omega] at this
theorem there_new (w : World) (cs : Array Value) (t : TypeId) (fr : Nat × Nat) (g n : Nat) (hg : w.heap[g]? = some (.cells cs t fr)) (hn : n ≤ cs.size) (hf : fr.2 ≤ fr.1 ∨ n ≤ fr.1) : w.there g 0 n := by
  intro j hj
  refine ⟨?_, ?_⟩
  · rw [cell_of_row w g _ cs t fr hg]
    simp; omega
  · unfold World.frozen?; rw [hg]; simp; omega
theorem range_new (w : World) (cs : Array Value) (t : TypeId) (fr : Nat × Nat) (g : Nat) (xs : List Value) (hg : w.heap[g]? = some (.cells cs t fr)) (hx : ∀ (j : Nat) (u : Value), xs[j]? = some u → cs[j]? = some u) : w.rangeAt g 0 xs := by
  intro j v hv
  rw [cell_of_row w g _ cs t fr hg, Nat.zero_add]
  exact hx j v hv
theorem run_mark {P : Program} (w : World) (base : Nat) (t tx ty e : TypeId) (i : TypeInfo) (z : Value) (bytes : Nat) (ht : P.underlying t = some (.slice e)) (hi : P.info? e = some i) (hz : i.zero = some z)
    (hsize : i.size = 1) (hby : i.bytes = bytes) (hzs : z.cells.size = 1)
    (v : Value) (xs : List Value) (hown : RowM w base v xs)
    (x : Value) (m : Nat) (news : List Value) (hs : Src P 1 tx x m news w) (hm : 0 < m)
    (h63 : xs.length + m ≤ maxLen) (hbytes : (xs.length + m) * bytes ≤ 140737488355328) (hbase : base ≤ w.heap.size) :
    ∃ v' w', (Builtin.append_ #[t, tx] ty #[v, x]).run P w = .ok v' w' ∧ RowM w' base v' (xs ++ news) ∧ Grew w w' v v' := by
  subst hby
  have hl := hs.newsLen
  rw [Nat.mul_one] at hl
  have hsmall : xs.length + m ≤ 9223372036854775807 := by simp only [maxLen] at h63; omega
  have hlen : (xs ++ news).length = xs.length + m := by rw [List.length_append, hl]
  have hs' := hs
  rw [← hsize] at hs'
  have grown : ∀ (old : Nat) (row : Option Nat),
      RowM (w.drew.alloc (.cells ((xs ++ news).toArray ++ Builtin.zeroCells z.cells (grownCap w (xs.length + m) old e - (xs.length + m))) e)) base
        (.slice (some ⟨w.heap.size, 0, none⟩) (xs.length + m) (grownCap w (xs.length + m) old e)) (xs ++ news) ∧
      w.grownBy (w.drew.alloc (.cells ((xs ++ news).toArray ++ Builtin.zeroCells z.cells (grownCap w (xs.length + m) old e - (xs.length + m))) e)) row := by
    intro old row
    have hge := grownCap_ge w (xs.length + m) old e
    have hcm : grownCap w (xs.length + m) old e ≤ maxLen := grownCap_le_maxLen w (xs.length + m) old e h63
    have hg := heap_alloc_new w.drew (.cells ((xs ++ news).toArray ++ Builtin.zeroCells z.cells (grownCap w (xs.length + m) old e - (xs.length + m))) e)
    refine ⟨Or.inr ⟨w.heap.size, _, by rw [hlen], hbase, by simp, by rw [hlen]; exact hge, hcm, there_new _ _ _ _ _ _ hg ?_ (Or.inl (Nat.le_refl _)), range_new _ _ _ _ _ _ hg ?_⟩, ⟨rfl, rfl, rfl, by simp, fun k hk _ => Below.heap_alloc w.drew _ k hk⟩⟩
    · simp only [Array.size_append, List.size_toArray, size_zeroCells, hzs, hlen]
      omega
    · intro j u hj
      have hjl := (List.getElem?_eq_some_iff.1 hj).1
      rw [Array.getElem?_append_left (by simpa using hjl)]
      simpa using hj
  rcases hown with ⟨rfl, rfl⟩ | ⟨g, cap, rfl, hbg, hgs, hnc, hcm, hth, hra⟩
  · have hr := run_append_grow_src (P := P) w t tx ty e i z ht hi hz none 0 0 [] (run_firstCells_none _ _ _ _ _) x m news hs' (by omega) (by omega) (growslice_fits (by omega) (by simpa using hbytes))
    have hgr := grown 0 (Value.ownBlock (.slice none 0 0))
    simp only [List.length_nil, Nat.zero_add, List.nil_append] at hgr hr ⊢
    exact ⟨_, _, hr, hgr.1, hgr.2, fun k hk => new_block _ _ k hk⟩
  · by_cases hroom : xs.length + m ≤ cap
    · have hst := run_storeCells_cells (P := P) g xs.length news 0 w (fun j hj => by have := (hth (xs.length + j) (by omega)).1; simpa using this) (fun j hj => by have := (hth (xs.length + j) (by omega)).2; simpa using this) hs.one
      simp only [Nat.add_zero] at hst
      have hc := hs'.cells
      have hlen0 := hs.len
      have hr : (Builtin.append_ #[t, tx] ty #[.slice (some ⟨g, 0, none⟩) xs.length cap, x]).run P w = .ok (.slice (some ⟨g, 0, none⟩) (xs.length + m) cap) (w.setCells g xs.length news) := by
        rw [hsize] at hc
        rcases hs.kind with ⟨e', hk⟩ | hk <;> simp [Builtin.append_, run_underlying ht, run_underlying hk, sizeOf, typeInfo, hi, hsize, hlen0, hroom, hc, Addr.add_lit, hst]
      have hkb := kb_setCells g news xs.length w
      refine ⟨_, _, hr, Or.inr ⟨g, cap, by rw [hlen], hbg, Nat.lt_of_lt_of_le hgs hkb.size, by rw [hlen]; exact hroom, hcm, World.there_setCells hth _ _ _, ?_⟩, ⟨hkb, fun k hk => Or.inl (by simpa [Value.ownBlock] using hk)⟩⟩
      refine rangeAt_split (World.rangeAt_setCells_apart hra _ _ _ (Or.inr (Or.inl (by omega)))) (World.rangeAt_setCells_same _ _ _ _ (fun j hj => ?_))
      have := hth (xs.length + j) (by omega)
      simpa using this
    · have hold : (Builtin.firstCells i.size xs.length (.slice (some ⟨g, 0, none⟩) xs.length cap)).run P w.drew = .ok xs.toArray w.drew := run_firstCells_some w.drew i.size xs.length _ xs.length cap xs (by rw [hsize, Nat.mul_one]) (fun j u hj => by
        have := hra j u hj
        rw [Addr.add_mid]
        exact this)
      have hr := run_append_grow_src (P := P) w t tx ty e i z ht hi hz (some ⟨g, 0, none⟩) xs.length cap xs hold x m news hs' (by omega) (by omega) (growslice_fits (by omega) hbytes)
      have hgr := grown cap (Value.ownBlock (.slice (some ⟨g, 0, none⟩) xs.length cap))
      exact ⟨_, _, hr, hgr.1, hgr.2, fun k hk => new_block _ _ k hk⟩
theorem wpList_mark {P : Program} {ops : Array Oper} {rest : List Oper} {o : Oper} {a : Act} {Q : Exit → Act → World → Prop} (w : World) (hgd : o.guard = none) (s x : Operand) (t tx : TypeId)
    (ho : o.op = .call { callee := .builtin .append, args := #[s, x], argTypes := #[t, tx] })
    (base : Nat) (e : TypeId) (i : TypeInfo) (z : Value) (bytes : Nat) (ht : P.underlying t = some (.slice e)) (hi : P.info? e = some i) (hz : i.zero = some z)
    (hsize : i.size = 1) (hby : i.bytes = bytes) (hzs : z.cells.size = 1)
    (v : Value) (xs : List Value) (hv : a.eval s = v) (hown : RowM w base v xs)
    (xv : Value) (m : Nat) (news : List Value) (hx : a.eval x = xv) (hs : Src P 1 tx xv m news w) (hm : 0 < m)
    (h63 : xs.length + m ≤ maxLen) (hbytes : (xs.length + m) * bytes ≤ 140737488355328) (hbase : base ≤ w.heap.size)
    (h : ∀ v' w', RowM w' base v' (xs ++ news) → Grew w w' v v' → wpList P ops Q rest (a.put o.dst v') w') : wpList P ops Q (o :: rest) a w :=
  wpList_plain hgd fun _ hK => by
    obtain ⟨v', w', hr, h2, h3⟩ := run_mark (P := P) w base t tx o.type e i z bytes ht hi hz hsize hby hzs v xs hown xv m news hs hm h63 hbytes hbase
    unfold Oper.wp execOp
    simp only [ho, resolve, invoke, builtin, Sem.run_bind, Sem.run_pure, Result.andThen_ok, List.map_toArray, List.map_cons, List.map_nil, hv, hx, hr]
    exact hK _ _ (h v' w' h2 h3)
theorem RowM.kept {w w' : World} {B : Nat} {v : Value} {xs : List Value} (h : RowM w B v xs) (hs : w.heap.size ≤ w'.heap.size) (hk : ∀ k, v.ownBlock = some k → w'.heap[k]? = w.heap[k]?) : RowM w' B v xs := by
  rcases h with h | ⟨g, cap, rfl, hbg, hgs, hnc, hcm, hth, hra⟩
  · exact Or.inl h
  · have e := hk g rfl
    refine Or.inr ⟨g, cap, rfl, hbg, by omega, hnc, hcm, fun j hj => ?_, fun j v hv => ?_⟩
    · have := hth j hj
      unfold World.cell? World.frozen? at *
      rw [e]
      exact this
    · have := hra j v hv
      unfold World.cell? at *
      rw [e]
      exact this
theorem RowM.alloc {w : World} {B : Nat} {v : Value} {xs : List Value} (h : RowM w B v xs) (o : Obj) : RowM (w.alloc o) B v xs := by
  refine h.kept (by simp) (fun k hk => ?_)
  rcases h with ⟨_, rfl⟩ | ⟨g, cap, rfl, hbg, hgs, _⟩
  · exact absurd hk (by simp [Value.ownBlock])
  · have : k = g := by simpa [Value.ownBlock] using hk.symm
    subst this
    exact Below.heap_alloc _ _ _ hgs
theorem RowM.bytes {w : World} {B : Nat} {v : Value} {l : List UInt8} (h : RowM w B v (bv l)) : BytesC (fun k => B ≤ k ∧ k < w.heap.size) w v l := by
  rcases h with ⟨h0, rfl⟩ | ⟨g, cap, rfl, hbg, hgs, hnc, hcm, hth, hra⟩
  · have : l = [] := by
      have := congrArg List.length h0
      rw [bv_len] at this
      exact List.eq_nil_of_length_eq_zero this
    subst this
    exact own_c (own_nil w B)
  · rw [bv_len] at hnc ⊢
    refine Or.inr ⟨_, _, rfl, hnc, hcm, Or.inr ⟨hbg, hgs⟩, fun j u hj => ?_⟩
    rw [Addr.add_mid]
    exact hra j u hj
/-- A string turned into bytes: a row of one's own, marked. -/
theorem conv_mark (w : World) (l : List UInt8) (hl : l.length ≤ 1048576) : ∃ cap w2, (convert 9 22 (.string ⟨l.toArray⟩)).run Tryd.prog w = .ok (.slice (some ⟨w.heap.size, 0, none⟩) l.length cap) w2 ∧
    RowM w2 w.heap.size (.slice (some ⟨w.heap.size, 0, none⟩) l.length cap) (bv l) ∧ Below w.heap.size w w2 ∧ w2.heap.size = w.heap.size + 1 := by
  have h := run_bytes_of_string (P := Tryd.prog) w 9 22 5 ⟨l.toArray⟩ Tryd.underlying9 Tryd.underlying22 Tryd.underlying5
  have hsz : (⟨l.toArray⟩ : ByteArray).size = l.length := by simp [ByteArray.size]
  rw [hsz] at h
  have hge := grownCap_ge w l.length 0 5
  have hcm := grownCap_le_maxLen w l.length 0 5 (by unfold maxLen; omega)
  have hbs : (bytesRow ⟨l.toArray⟩ (grownCap w l.length 0 5)).size = grownCap w l.length 0 5 := by
    unfold bytesRow
    simp [hsz]
    omega
  refine ⟨_, _, h, Or.inr ⟨w.heap.size, _, by rw [bv_len], Nat.le_refl _, by simp, by rw [bv_len]; exact hge, hcm, ?_, ?_⟩, (Below.refl _ w).drew.alloc (Nat.le_refl _) _, by simp⟩
  · refine there_new _ _ _ _ _ _ (heap_alloc_new w.drew _) (by rw [hbs]; exact Nat.le_refl _) (Or.inr (by rw [hbs]; exact Nat.le_refl _))
  · refine range_new _ _ _ _ _ _ (heap_alloc_new w.drew _) (fun j u hj => ?_)
    have hjl : j < l.length := by have := (List.getElem?_eq_some_iff.1 hj).1; rwa [bv_len] at this
    rw [bytesRow_at _ _ _ (by simpa using hjl)]
    rw [← hj]
    unfold bv
    rw [List.getElem?_map, List.getElem?_eq_getElem hjl]
    simp
end Go.Proofs.YtdolonkeanlaoaaDoor
