/- Arrays of bytes compared; the walk of the laws' ids. -/
import Derived.Test.YtdolonkeanlaoaaDoorObY
import Derived.Laws.StructEq
namespace Go.Proofs.YtdolonkeanlaoaaDoor
open Go.RowKit

section
variable {P : Program} (w : World)
theorem part_byte {e : TypeId} (ha : (isAgg e).run P w = .ok false w) (l : List UInt8) (i : Nat) (h : i < l.length) : (part e (bv l).toArray i).run P w = .ok (.int .u8 (l[i].toNat : Nat)) w := by
  have : (bv l).toArray[i]? = some (.int .u8 (l[i].toNat : Nat)) := by unfold bv; simp [List.getElem?_eq_getElem h]
  simp [part, ha, this]
theorem arr_loop (d : Nat) {e : TypeId} {k' : IntKind} (he : P.underlying e = some (.int k')) (ha : ∀ w, (isAgg e).run P w = .ok false w) (xs ys : List UInt8) (hl : xs.length = ys.length) : ∀ (m i : Nat), i + m = xs.length →
    Sem.run P (forIn (List.range' i m) ((none, ()) : Option Bool × Unit) fun i __s => do
              let a ← part e (bv xs).toArray (i * 1)
              let b ← part e (bv ys).toArray (i * 1)
              let r ← Op.equalIn (d + 1) e a b
              if (!r) = true then pure (ForInStep.done (some false, ())) else pure (ForInStep.yield (none, ()))) w
    = .ok (if xs.drop i = ys.drop i then none else some false, ()) w
  | 0, i, h => by
    rw [List.drop_of_length_le (by omega), List.drop_of_length_le (by omega)]
    simp
  | m + 1, i, h => by
    have h1 : i < xs.length := by omega
    have h2 : i < ys.length := by omega
    rw [List.range'_succ, List.forIn_cons]
    simp only [Sem.run_bind, Nat.mul_one, part_byte w (ha w) xs i h1, part_byte w (ha w) ys i h2, Result.andThen_ok, run_equalIn_int w d e .u8 k' _ _ he]
    have dx := List.drop_eq_getElem_cons h1
    have dy := List.drop_eq_getElem_cons h2
    by_cases hb : xs[i] = ys[i]
    · rw [hb]
      simp only [beq_self_eq_true, Bool.not_true, Bool.false_eq_true, if_false, Sem.run_pure, Result.andThen_ok]
      have := arr_loop d he ha xs ys hl m (i + 1) (by omega)
      simp only [Nat.mul_one] at this
      rw [this, dx, dy, hb]
      by_cases hd : xs.drop (i + 1) = ys.drop (i + 1)
      · rw [if_pos hd, if_pos (by rw [hd])]
      · rw [if_neg hd, if_neg (fun e => hd (List.cons.inj e).2)]
    · have hn : ¬ xs.drop i = ys.drop i := fun e => by rw [dx, dy] at e; exact hb (List.cons.inj e).1
      have hne : ((xs[i].toNat : Int) == (ys[i].toNat : Int)) = false := by
        rw [beq_eq_false_iff_ne]; intro e; exact hb (UInt8.toNat_inj.1 (by omega))
      rw [hne, if_neg hn]
      simp
theorem run_equalIn_arr (d : Nat) (t : TypeId) (n : Nat) (e : TypeId) (k' : IntKind) (xs ys : List UInt8) (ht : P.underlying t = some (.array n e)) (he : P.underlying e = some (.int k')) (ha : ∀ w, (isAgg e).run P w = .ok false w) (hs : ∀ w, (sizeOf e).run P w = .ok 1 w) (hx : xs.length = n) (hy : ys.length = n) :
   (Op.equalIn (d + 2) t (.agg (bv xs).toArray) (.agg (bv ys).toArray)).run P w = .ok (decide (xs = ys)) w := by
  rw [Op.equalIn]
  simp only [Sem.run_bind, run_underlying ht, Result.andThen_ok, hs]
  rw [Std.Legacy.Range.forIn_eq_forIn_range']
  have := arr_loop w d he ha xs ys (by omega) n 0 (by omega)
  simp only [Std.Legacy.Range.size, Nat.sub_zero, Nat.add_sub_cancel, Nat.div_one]
  rw [this]
  by_cases h : xs = ys <;> simp [h]
theorem run_neq_id (t : TypeId) (n : Nat) (e : TypeId) (k' : IntKind) (xs ys : List UInt8) (ht : P.underlying t = some (.array n e)) (he : P.underlying e = some (.int k')) (ha : ∀ w, (isAgg e).run P w = .ok false w) (hs : ∀ w, (sizeOf e).run P w = .ok 1 w) (hx : xs.length = n) (hy : ys.length = n) :
   (binOp .neq t (.agg (bv xs).toArray) (.agg (bv ys).toArray)).run P w = .ok (.bool (decide (xs ≠ ys))) w := by
  rw [run_neq_struct, run_equalIn_arr w 9998 t n e k' xs ys ht he ha hs hx hy]
  by_cases h : xs = ys <;> simp [h]
theorem run_eql_id (t : TypeId) (n : Nat) (e : TypeId) (k' : IntKind) (xs ys : List UInt8) (ht : P.underlying t = some (.array n e)) (he : P.underlying e = some (.int k')) (ha : ∀ w, (isAgg e).run P w = .ok false w) (hs : ∀ w, (sizeOf e).run P w = .ok 1 w) (hx : xs.length = n) (hy : ys.length = n) :
   (binOp .eql t (.agg (bv xs).toArray) (.agg (bv ys).toArray)).run P w = .ok (.bool (decide (xs = ys))) w := by
  rw [run_eql_struct, run_equalIn_arr w 9998 t n e k' xs ys ht he ha hs hx hy]
  simp
end
theorem id_eql (w : World) {x y : List UInt8} (hx : x.length = 32) (hy : y.length = 32) : (binOp .eql 33 (.agg (bv x).toArray) (.agg (bv y).toArray)).run Tryd.prog w = .ok (.bool (decide (x = y))) w :=
  run_eql_id w _ 32 5 .u8 x y Tryd.under33' Tryd.underlying5 (fun w => by rw [Tryd.isAgg5]) (fun w => by rw [Tryd.sizeOf5]) hx hy
theorem id_neq (w : World) {x y : List UInt8} (hx : x.length = 32) (hy : y.length = 32) : (binOp .neq 33 (.agg (bv x).toArray) (.agg (bv y).toArray)).run Tryd.prog w = .ok (.bool (decide (x ≠ y))) w :=
  run_neq_id w _ 32 5 .u8 x y Tryd.under33' Tryd.underlying5 (fun w => by rw [Tryd.isAgg5]) (fun w => by rw [Tryd.sizeOf5]) hx hy
attribute [local simp high] id_size id_zero n32_ne
theorem take_next {I : List (List UInt8)} {k : Nat} (h : k < I.length) : I.take (k + 1) = I.take k ++ [I.getD k []] := by
  rw [List.take_succ_eq_append_getElem h]; simp [List.getD, h]
theorem take_ne {I J : List (List UInt8)} {k : Nat} (h : I.getD k [] ≠ J.getD k []) : I ≠ J := by rintro rfl; exact h rfl
end Go.Proofs.YtdolonkeanlaoaaDoor
