/- Arrays of bytes compared; the walk of the laws' ids. -/
import Derived.Test.YtdolonkeanlaoaaObY
import Derived.Laws.StructEq
namespace Go.Proofs.Ytdolonkeanlaoaa
open Go.RowKit

section
variable {P : Program} (w : World)
theorem part_byte {e : TypeId} (ha : (isAgg e).run P w = .ok false w) (l : List UInt8) (i : Nat) (h : i < l.length) : (part e (bv l).toArray i).run P w = .ok (.int .u8 (l[i].toNat : Nat)) w := by
  have : (bv l).toArray[i]? = some (.int .u8 (l[i].toNat : Nat)) := by unfold bv; simp [List.getElem?_eq_getElem h]
  simp [part, ha, this]
theorem arr_loop (d : Nat) {e : TypeId} {k' : IntKind} (he : P.underlying e = some (.int k')) (ha : ∀ w, (isAgg e).run P w = .ok false w) (xs ys : List UInt8) (hl : xs.length = ys.length) : ∀ (m i : Nat), i + m = xs.length →
    Sem.run P (forIn (List.range' i m) ((none, ()) : Option Bool × Unit) fun i __s => do
              let a ← part e (bv xs).toArray (i * 1)
              let b ← part e (bv ys).toArray (i * 1)
              let r ← Op.equalIn (d + 1) e a b
              if (!r) = true then pure (ForInStep.done (some false, ())) else pure (ForInStep.yield (none, ()))) w
    = .ok (if xs.drop i = ys.drop i then none else some false, ()) w
  | 0, i, h => by
    rw [List.drop_of_length_le (by omega), List.drop_of_length_le (by omega)]
    simp
  | m + 1, i, h => by
    have h1 : i < xs.length := by omega
    have h2 : i < ys.length := by omega
    rw [List.range'_succ, List.forIn_cons]
    simp only [Sem.run_bind, Nat.mul_one, part_byte w (ha w) xs i h1, part_byte w (ha w) ys i h2, Result.andThen_ok, run_equalIn_int w d e .u8 k' _ _ he]
    have dx := List.drop_eq_getElem_cons h1
    have dy := List.drop_eq_getElem_cons h2
    by_cases hb : xs[i] = ys[i]
    · rw [hb]
      simp only [beq_self_eq_true, Bool.not_true, Bool.false_eq_true, if_false, Sem.run_pure, Result.andThen_ok]
      have := arr_loop d he ha xs ys hl m (i + 1) (by omega)
      simp only [Nat.mul_one] at this
      rw [this, dx, dy, hb]
      by_cases hd : xs.drop (i + 1) = ys.drop (i + 1)
      · rw [if_pos hd, if_pos (by rw [hd])]
      · rw [if_neg hd, if_neg (fun e => hd (List.cons.inj e).2)]
    · have hn : ¬ xs.drop i = ys.drop i := fun e => by rw [dx, dy] at e; exact hb (List.cons.inj e).1
      have hne : ((xs[i].toNat : Int) == (ys[i].toNat : Int)) = false := by
        rw [beq_eq_false_iff_ne]; intro e; exact hb (UInt8.toNat_inj.1 (by omega))
      rw [hne, if_neg hn]
      simp
theorem run_equalIn_arr (d : Nat) (t : TypeId) (n : Nat) (e : TypeId) (k' : IntKind) (xs ys : List UInt8) (ht : P.underlying t = some (.array n e)) (he : P.underlying e = some (.int k')) (ha : ∀ w, (isAgg e).run P w = .ok false w) (hs : ∀ w, (sizeOf e).run P w = .ok 1 w) (hx : xs.length = n) (hy : ys.length = n) :
   (Op.equalIn (d + 2) t (.agg (bv xs).toArray) (.agg (bv ys).toArray)).run P w = .ok (decide (xs = ys)) w := by
  rw [Op.equalIn]
  simp only [Sem.run_bind, run_underlying ht, Result.andThen_ok, hs]
  rw [Std.Legacy.Range.forIn_eq_forIn_range']
  have := arr_loop w d he ha xs ys (by omega) n 0 (by omega)
  simp only [Std.Legacy.Range.size, Nat.sub_zero, Nat.add_sub_cancel, Nat.div_one]
  rw [this]
  by_cases h : xs = ys <;> simp [h]
theorem run_neq_id (t : TypeId) (n : Nat) (e : TypeId) (k' : IntKind) (xs ys : List UInt8) (ht : P.underlying t = some (.array n e)) (he : P.underlying e = some (.int k')) (ha : ∀ w, (isAgg e).run P w = .ok false w) (hs : ∀ w, (sizeOf e).run P w = .ok 1 w) (hx : xs.length = n) (hy : ys.length = n) :
   (binOp .neq t (.agg (bv xs).toArray) (.agg (bv ys).toArray)).run P w = .ok (.bool (decide (xs ≠ ys))) w := by
  rw [run_neq_struct, run_equalIn_arr w 9998 t n e k' xs ys ht he ha hs hx hy]
  by_cases h : xs = ys <;> simp [h]
theorem run_eql_id (t : TypeId) (n : Nat) (e : TypeId) (k' : IntKind) (xs ys : List UInt8) (ht : P.underlying t = some (.array n e)) (he : P.underlying e = some (.int k')) (ha : ∀ w, (isAgg e).run P w = .ok false w) (hs : ∀ w, (sizeOf e).run P w = .ok 1 w) (hx : xs.length = n) (hy : ys.length = n) :
   (binOp .eql t (.agg (bv xs).toArray) (.agg (bv ys).toArray)).run P w = .ok (.bool (decide (xs = ys))) w := by
  rw [run_eql_struct, run_equalIn_arr w 9998 t n e k' xs ys ht he ha hs hx hy]
  simp
end
theorem id_eql (w : World) {x y : List UInt8} (hx : x.length = 32) (hy : y.length = 32) : (binOp .eql 27 (.agg (bv x).toArray) (.agg (bv y).toArray)).run Try.prog w = .ok (.bool (decide (x = y))) w :=
  run_eql_id w _ 32 5 .u8 x y Try.under27' Try.underlying5 (fun w => by rw [Try.isAgg5]) (fun w => by rw [Try.sizeOf5]) hx hy
theorem id_neq (w : World) {x y : List UInt8} (hx : x.length = 32) (hy : y.length = 32) : (binOp .neq 27 (.agg (bv x).toArray) (.agg (bv y).toArray)).run Try.prog w = .ok (.bool (decide (x ≠ y))) w :=
  run_neq_id w _ 32 5 .u8 x y Try.under27' Try.underlying5 (fun w => by rw [Try.isAgg5]) (fun w => by rw [Try.sizeOf5]) hx hy
attribute [local simp high] id_size id_zero n32_ne
theorem take_next {I : List (List UInt8)} {k : Nat} (h : k < I.length) : I.take (k + 1) = I.take k ++ [I.getD k []] := by
  rw [List.take_succ_eq_append_getElem h]; simp [List.getD, h]
theorem take_ne {I J : List (List UInt8)} {k : Nat} (h : I.getD k [] ≠ J.getD k []) : I ≠ J := by rintro rfl; exact h rfl
set_option maxRecDepth 100000 in
set_option maxHeartbeats 4000000 in
theorem sames_any (S S' : Nat → Prop) (v u : Value) (I J : List (List UInt8)) (w : World) (hv : IDsC S w v I) (hu : IDsC S' w u J) (hl : I.length ≤ 1048576) (hm : J.length ≤ 1048576) :
    Calls Try.prog 29 #[v, u] w fun e w' => e = .returned (.bool (decide (I = J))) ∧ ∃ n, w' = w.drewN n := by
  obtain ⟨a, c, rfl⟩ := hv.shape
  obtain ⟨b, d, rfl⟩ := hu.shape
  by_cases he : I.length = J.length
  case neg =>
    have h1 : (I.length == J.length) = false := by rw [beq_eq_false_iff_ne]; exact he
    have HR : Hid (decide (I = J) = false) := Lib.hid (decide_eq_false (by rintro rfl; exact he rfl))
    have h2 : ((I.length : Int) == (J.length : Int)) = false := by rw [beq_eq_false_iff_ne]; intro x; exact he (by omega)
    generalize decide (I = J) = R at *
    generalize I.length = m at *
    generalize J.length = n at *
    clear hv hu he
    go_enter Try.func29, Try.ntmps29
    go_wp2_with fail
    go_ret
    exact ⟨by rw [HR.out]; rfl, 0, rfl⟩
  case pos =>
  have HV := Lib.hid hv
  have HU := Lib.hid hu
  have HE := Lib.hid he
  obtain ⟨m, hm⟩ : ∃ m, I.length = m := ⟨_, rfl⟩
  have HM := Lib.hid hm
  rw [← he] at HU ⊢
  rw [hm] at hl HV HU ⊢
  clear hv hu he hm
  obtain ⟨R, hR⟩ : ∃ R, decide (I = J) = R := ⟨_, rfl⟩
  have HR := Lib.hid hR
  rw [hR]
  clear hR
  go_enter Try.func29, Try.ntmps29
  go_wp2_with fail
  go_loopw [13] (fun i wr => ∃ k : Nat, k ≤ m ∧ i = .int .i64 (k : Int) ∧ Hid (I.take k = J.take k) ∧ Hid (∃ n, wr = w.drewN n)) (fun i _ => m - (intOf i).toNat)
  case atStart => exact ⟨0, Nat.zero_le _, rfl, Lib.hid rfl, Lib.hid ⟨0, rfl⟩⟩
  case round =>
    obtain ⟨k, hk, rfl, hT, hW⟩ := hrel
    by_cases hlt : k < m
    · obtain ⟨nw, hnw⟩ := hW.out
      have hVw : IDsC S wr (.slice a I.length c) I := by rw [HM.out, hnw]; exact HV.out.kept (fun q hq => ⟨hq, rfl⟩)
      have hUw : IDsC S' wr (.slice b J.length d) J := by rw [← HE.out, HM.out, hnw]; exact HU.out.kept (fun q hq => ⟨hq, rfl⟩)
      obtain ⟨a', rfl, _, _, _⟩ := hVw.at (by rw [HM.out]; omega)
      obtain ⟨b', rfl, _, _, _⟩ := hUw.at (by rw [← HE.out, HM.out]; omega)
      have q1 : ∀ nq, (loadCellsFrom (a'.add (k * n32)) 0 n32 #[]).run Try.prog (wr.drewN nq) = .ok (bv (I.getD k [])).toArray (wr.drewN nq) := fun nq => (hVw.kept (S' := S) (w' := wr.drewN nq) (fun q hq => ⟨hq, rfl⟩)).cells k (by rw [HM.out]; exact hlt)
      have q2 : ∀ nq, (loadCellsFrom (b'.add (k * n32)) 0 n32 #[]).run Try.prog (wr.drewN nq) = .ok (bv (J.getD k [])).toArray (wr.drewN nq) := fun nq => (hUw.kept (S' := S') (w' := wr.drewN nq) (fun q hq => ⟨hq, rfl⟩)).cells k (by rw [← HE.out, HM.out]; exact hlt)
      have l1 : (I.getD k []).length = 32 := hVw.len k (by rw [HM.out]; exact hlt)
      have l2 : (J.getD k []).length = 32 := hUw.len k (by rw [← HE.out, HM.out]; exact hlt)
      have HT1 := Lib.hid (take_next (I := I) (k := k) (by rw [HM.out]; exact hlt))
      have HT2 := Lib.hid (take_next (I := J) (k := k) (by rw [← HE.out, HM.out]; exact hlt))
      have HNE := Lib.hid (take_ne (I := I) (J := J) (k := k))
      clear hVw hUw hnw
      generalize I.getD k [] = X at *
      generalize J.getD k [] = Y at *
      have hnq : ∀ W, (binOp .neq 27 (.agg (bv X).toArray) (.agg (bv Y).toArray)).run Try.prog W = .ok (.bool (decide (X ≠ Y))) W := fun W => id_neq W l1 l2
      clear l1 l2
      by_cases hxy : X = Y
      · have hd : decide (X ≠ Y) = false := by simp [hxy]
        rw [hd] at hnq
        have HT : Hid (I.take (k + 1) = J.take (k + 1)) := Lib.hid (by rw [HT1.out, HT2.out, hT.out, hxy])
        clear hxy hd
        go_upto_region 6 with fail
        go_quiet (fail)
        go_wp2_with fail
        go_roundw
        case rel => exact ⟨k + 1, by omega, by go_num, HT, Lib.hid (by obtain ⟨nw, hnw⟩ := hW.out; rw [hnw]; exact ⟨_, World.drewN_drewN _ _ _⟩)⟩
        case measure => simp [intOf]; omega
      · have hd : decide (X ≠ Y) = true := by simp [hxy]
        rw [hd] at hnq
        have HF : Hid (R = false) := Lib.hid (by rw [← HR.out]; exact decide_eq_false (HNE.out hxy))
        clear hxy hd
        go_upto_region 6 with fail
        go_quiet (fail)
        go_wp2_with fail
        go_ret
        exact ⟨by rw [HF.out]; rfl, by obtain ⟨nw, hnw⟩ := hW.out; rw [hnw]; exact ⟨_, World.drewN_drewN _ _ _⟩⟩
    · have HF : Hid (R = true) := Lib.hid (by
        have h := hT.out
        rw [List.take_of_length_le (by rw [HM.out]; omega), List.take_of_length_le (by rw [← HE.out, HM.out]; omega)] at h
        rw [← HR.out]; exact decide_eq_true h)
      go_wp2_with fail
      go_ret
      exact ⟨by rw [HF.out]; rfl, hW.out⟩
end Go.Proofs.Ytdolonkeanlaoaa
