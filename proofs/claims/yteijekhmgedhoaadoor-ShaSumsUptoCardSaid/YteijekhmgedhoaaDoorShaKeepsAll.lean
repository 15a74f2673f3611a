/- The walk of the law ShaKeeps. -/
import Derived.Test.YteijekhmgedhoaaDoorShaBackAll
import Derived.Test.YteijekhmgedhoaaDoorStep
import Derived.Deep.RegionHeld3
namespace Go.Proofs.YteijekhmgedhoaaDoor
open Go.RowKit
attribute [local simp high] id_size id_zero

theorem step_own_srcW {P : Program} {ops : Array Oper} {o : Oper} {a : Act} {K : Act → World → Prop} {Q : Exit → Act → World → Prop} {E : Prop} (w : World) (hw : Region.wanted o (yielded ops a.tmps) = true) (s x : Operand) (t tx : TypeId)
    (ho : o.op = .call { callee := .builtin .append, args := #[s, x], argTypes := #[t, tx] })
    (base : Nat) (e : TypeId) (i : TypeInfo) (z : Value) (size bytes : Nat) (ht : P.underlying t = some (.slice e)) (hi : P.info? e = some i) (hz : i.zero = some z)
    (hsize : i.size = size) (hby : i.bytes = bytes) (hzs : z.cells.size = size) (hsz : 0 < size)
    (v : Value) (n : Nat) (xs : List Value) (hv : a.eval s = v) (hown : w.ownsRow base e size v n xs)
    (xv : Value) (m : Nat) (news : List Value) (hx : a.eval x = xv) (hs : Src P size tx xv m news w)
    (h63 : n + m ≤ maxLen) (hbytes : (n + m) * bytes ≤ 140737488355328) (hbase : base ≤ w.heap.size)
    (h : ∀ v' w', w'.ownsRow base e size v' (n + m) (xs ++ news) → Grew w w' v v' → K (a.put o.dst v') w') :
    if Region.wanted o (yielded ops a.tmps) = true then Oper.wp P o a w K Q else E := by
  rw [if_pos hw]
  obtain ⟨v', w', hr, h2, h3⟩ := run_own_src (P := P) w base t tx o.type e i z size bytes ht hi hz hsize hby hzs hsz v n xs hown xv m news hs h63 hbytes hbase
  unfold Oper.wp execOp
  simp only [ho, resolve, invoke, builtin, Sem.run_bind, Sem.run_pure, Result.andThen_ok, List.map_toArray, List.map_cons, List.map_nil, hv, hx, hr]
  exact h v' w' h2 h3
theorem any_step {K : Act → World → Prop} {a : Act} {w : World} (h : ∀ w1, w1 = w → K a w1) : K a w := h _ rfl
theorem below_tr {w0 w w' : World} (h : Below w0.heap.size w0 w) (hb : Below w.heap.size w w') : Below w0.heap.size w0 w' := h.trans (hb.mono h.size)
theorem own_lower {w : World} {B B' : Nat} {v : Value} {l : List UInt8} (hb : B' ≤ B) (h : Own w B v l) : Own w B' v l := by
  refine ⟨h.1, ?_⟩
  rcases h.2 with h | ⟨g, cap, cur, h1, h2, h3⟩
  · exact Or.inl h
  · exact Or.inr ⟨g, cap, cur, h1, Nat.le_trans hb h2, h3⟩
theorem chunks_of (w : World) (vs : List Value) (ls : List (List UInt8)) (_ : vs.length = ls.length) (h : ∀ (j : Nat) l, ls[j]? = some l → ∃ v, vs[j]? = some v ∧ BytesC (fun k => k < w.heap.size) w v l) (hm : ls.length ≤ maxLen := by unfold maxLen; simp) :
    ChunksC (fun k => k < w.heap.size + 1) (w.alloc (.cells vs.toArray 22)) (.slice (some ⟨w.heap.size, 0, none⟩) ls.length ls.length) ls := by
  refine Or.inr ⟨_, ls.length, rfl, Nat.le_refl _, hm, Or.inr (Nat.lt_succ_self _), fun j l hj => ?_⟩
  obtain ⟨v, hv, hb⟩ := h j l hj
  refine ⟨v, ?_, hb.kept (fun k hk => ⟨Nat.lt_succ_of_lt hk, Below.heap_alloc w _ k hk⟩)⟩
  rw [Addr.add_mid, cell_of_row _ _ _ _ _ _ (new_five w _ _), Nat.zero_add]
  simpa using hv
end Go.Proofs.YteijekhmgedhoaaDoor
