/- A pack's ids and places, as functions of its file's records (mathematics). A map with ids as keys; a pack in memory. -/
import Derived.Test.YtgknihcpmpfocaaDoorPkAD
import Derived.Test.YtgknihcpmpfocaaDoorPkE
import Derived.DeepKeys4
import Derived.Maps.OwnSet
namespace Go.Proofs.YtgknihcpmpfocaaDoor
/-- Where the first record with an id stands, behind o bytes: from where, and to where. -/
def placeAt : Nat → List (List UInt8) → List UInt8 → Option (Nat × Nat)
  | _, [], _ => none
  | o, r :: t, x => if sumN r = x then some (o + 12, o + 12 + r.length) else placeAt (o + 12 + r.length) t x
def placeOf (all : List (List UInt8)) (x : List UInt8) : Option (Nat × Nat) := placeAt 0 all x
def firstR : List (List UInt8) → List UInt8 → Option (List UInt8)
  | [], _ => none
  | r :: t, x => if sumN r = x then some r else firstR t x
def noteI (pl : List UInt8 → Option (Nat × Nat)) (I : List (List UInt8)) (x : List UInt8) : List (List UInt8) := if (pl x).isSome then I else I ++ [x]
def noteP (pl : List UInt8 → Option (Nat × Nat)) (x : List UInt8) (p : Nat × Nat) (y : List UInt8) : Option (Nat × Nat) := if (pl x).isSome then pl y else if y = x then some p else pl y
/-- The ids of records, each once, the first first. -/
def idsAt : List (List UInt8) → List (List UInt8) → List (List UInt8)
  | I, [] => I
  | I, r :: t => idsAt (if sumN r ∈ I then I else I ++ [sumN r]) t
def idsOf (all : List (List UInt8)) : List (List UInt8) := idsAt [] all
theorem placeAt_snoc (o : Nat) (all : List (List UInt8)) (d x : List UInt8) : placeAt o (all ++ [d]) x = match placeAt o all x with
    | some p => some p
    | none => if sumN d = x then some (o + (framesL all).length + 12, o + (framesL all).length + 12 + d.length) else none := by
  induction all generalizing o with
  | nil => simp [placeAt, framesL]
  | cons r t ih =>
    rw [List.cons_append]
    unfold placeAt
    split
    · rfl
    · rw [ih, framesL_cons, List.length_append, frameL_len]
      have e : o + 12 + r.length + (framesL t).length = o + (12 + r.length + (framesL t).length) := by omega
      rw [e]
theorem firstR_snoc (all : List (List UInt8)) (d x : List UInt8) : firstR (all ++ [d]) x = match firstR all x with
    | some p => some p
    | none => if sumN d = x then some d else none := by
  induction all with
  | nil => simp [firstR]
  | cons r t ih =>
    rw [List.cons_append]
    unfold firstR
    split
    · rfl
    · exact ih
theorem firstR_mem {all : List (List UInt8)} {x r : List UInt8} (h : firstR all x = some r) : r ∈ all ∧ sumN r = x := by
  induction all with
  | nil => cases h
  | cons s t ih =>
    unfold firstR at h
    split at h
    · rename_i e
      injection h with h
      subst h
      exact ⟨List.mem_cons_self, e⟩
    · obtain ⟨h1, h2⟩ := ih h
      exact ⟨List.mem_cons_of_mem _ h1, h2⟩
theorem firstR_none {all : List (List UInt8)} {x : List UInt8} : firstR all x = none ↔ ∀ r ∈ all, sumN r ≠ x := by
  induction all with
  | nil => simp [firstR]
  | cons s t ih =>
    unfold firstR
    split
    · rename_i e
      constructor
      · intro h; cases h
      · intro h; exact absurd e (h s List.mem_cons_self)
    · rename_i e
      rw [ih]
      constructor
      · intro h r hr
        rcases List.mem_cons.1 hr with rfl | hr
        · exact e
        · exact h r hr
      · intro h r hr
        exact h r (List.mem_cons_of_mem _ hr)
theorem placeAt_none {o : Nat} {all : List (List UInt8)} {x : List UInt8} : placeAt o all x = none ↔ firstR all x = none := by
  induction all generalizing o with
  | nil => simp [placeAt, firstR]
  | cons s t ih =>
    unfold placeAt firstR
    split
    · simp
    · exact ih
theorem placeAt_some {o : Nat} {all : List (List UInt8)} {x : List UInt8} {p : Nat × Nat} (h : placeAt o all x = some p) :
    ∃ r, firstR all x = some r ∧ p.2 = p.1 + r.length ∧ o + 12 ≤ p.1 ∧ p.2 ≤ o + (framesL all).length ∧ ((framesL all).drop (p.1 - o)).take r.length = r := by
  induction all generalizing o with
  | nil => cases h
  | cons s t ih =>
    unfold placeAt at h
    split at h
    · rename_i e
      injection h with h
      subst h
      refine ⟨s, by unfold firstR; rw [if_pos e], rfl, by simp, by rw [framesL_cons, List.length_append, frameL_len]; simp; omega, ?_⟩
      show ((framesL (s :: t)).drop (o + 12 - o)).take s.length = s
      rw [framesL_cons, show o + 12 - o = 12 by omega]
      unfold frameL
      rw [List.append_assoc, List.drop_left' (headL_len s)]
      exact List.take_left' rfl
    · rename_i e
      obtain ⟨r, h1, h2, h3, h4, h5⟩ := ih h
      refine ⟨r, by unfold firstR; rw [if_neg e]; exact h1, h2, by omega, by rw [framesL_cons, List.length_append, frameL_len]; omega, ?_⟩
      rw [framesL_cons]
      have e2 : p.1 - o = (12 + s.length) + (p.1 - (o + 12 + s.length)) := by omega
      rw [e2, ← List.drop_drop, List.drop_left' (frameL_len s)]
      exact h5
theorem placeOf_some {all : List (List UInt8)} {x : List UInt8} {p : Nat × Nat} (h : placeOf all x = some p) :
    ∃ r, firstR all x = some r ∧ p.2 = p.1 + r.length ∧ p.2 ≤ (framesL all).length ∧ ((framesL all).drop p.1).take r.length = r ∧ 12 ≤ p.1 := by
  obtain ⟨r, h1, h2, h3, h4, h5⟩ := placeAt_some h
  rw [Nat.zero_add] at h4
  exact ⟨r, h1, h2, h4, h5, by omega⟩
theorem placeOf_iff {all : List (List UInt8)} {x : List UInt8} : (placeOf all x).isSome = (firstR all x).isSome := by
  have h := placeAt_none (o := 0) (all := all) (x := x)
  unfold placeOf
  cases h1 : placeAt 0 all x with
  | none => rw [h.1 h1]; rfl
  | some p =>
    cases h2 : firstR all x with
    | none => rw [h.2 h2] at h1; cases h1
    | some r => rfl
theorem placeOf_snoc (all : List (List UInt8)) (d : List UInt8) : placeOf (all ++ [d]) = noteP (placeOf all) (sumN d) ((framesL all).length + 12, (framesL all).length + 12 + d.length) := by
  funext y
  unfold noteP
  have hs := placeAt_snoc 0 all d y
  rw [Nat.zero_add] at hs
  show placeAt 0 (all ++ [d]) y = _
  rw [hs]
  by_cases hn : (placeOf all (sumN d)).isSome = true
  · rw [if_pos hn]
    show _ = placeAt 0 all y
    cases h : placeAt 0 all y with
    | some p => rfl
    | none =>
      show (if sumN d = y then _ else none) = none
      rw [if_neg]
      intro e
      subst e
      have : placeOf all (sumN d) = none := h
      rw [this] at hn; cases hn
  · rw [if_neg hn]
    have hn2 : placeAt 0 all (sumN d) = none := by
      cases h : placeAt 0 all (sumN d) with
      | none => rfl
      | some p => exact absurd (show (placeOf all (sumN d)).isSome = true by unfold placeOf; rw [h]; rfl) hn
    by_cases e : y = sumN d
    · subst e
      rw [hn2, if_pos rfl]
      simp
    · rw [if_neg e]
      show _ = placeAt 0 all y
      cases h : placeAt 0 all y with
      | some p => rfl
      | none =>
        show (if sumN d = y then _ else none) = none
        rw [if_neg (fun h => e h.symm)]
theorem idsAt_append (I a b : List (List UInt8)) : idsAt I (a ++ b) = idsAt (idsAt I a) b := by
  induction a generalizing I with
  | nil => rfl
  | cons r t ih =>
    exact ih _
theorem mem_idsAt {I all : List (List UInt8)} {x : List UInt8} : x ∈ idsAt I all ↔ x ∈ I ∨ ∃ r ∈ all, sumN r = x := by
  induction all generalizing I with
  | nil => simp [idsAt]
  | cons r t ih =>
    unfold idsAt
    rw [ih]
    constructor
    · rintro (h | ⟨s, h1, h2⟩)
      · split at h
        · exact Or.inl h
        · rcases List.mem_append.1 h with h | h
          · exact Or.inl h
          · rw [List.mem_singleton] at h
            exact Or.inr ⟨r, List.mem_cons_self, h.symm⟩
      · exact Or.inr ⟨s, List.mem_cons_of_mem _ h1, h2⟩
    · rintro (h | ⟨s, h1, h2⟩)
      · left
        split
        · exact h
        · exact List.mem_append_left _ h
      · rcases List.mem_cons.1 h1 with rfl | h1
        · left
          split
          · rename_i h3; rwa [h2] at h3
          · rw [h2]; simp
        · exact Or.inr ⟨s, h1, h2⟩
theorem mem_idsOf {all : List (List UInt8)} {x : List UInt8} : x ∈ idsOf all ↔ (firstR all x).isSome = true := by
  unfold idsOf
  rw [mem_idsAt]
  constructor
  · rintro (h | ⟨r, h1, h2⟩)
    · cases h
    · cases h : firstR all x with
      | some p => rfl
      | none => exact absurd h2 (firstR_none.1 h r h1)
  · intro h
    obtain ⟨r, hr⟩ := Option.isSome_iff_exists.1 h
    exact Or.inr ⟨r, (firstR_mem hr).1, (firstR_mem hr).2⟩
theorem idsOf_snoc (all : List (List UInt8)) (d : List UInt8) : idsOf (all ++ [d]) = noteI (placeOf all) (idsOf all) (sumN d) := by
  unfold noteI
  rw [placeOf_iff]
  show idsAt [] (all ++ [d]) = _
  rw [idsAt_append]
  show (if sumN d ∈ idsOf all then idsOf all else idsOf all ++ [sumN d]) = _
  by_cases h : (firstR all (sumN d)).isSome = true
  · rw [if_pos h, if_pos (mem_idsOf.2 h)]
  · rw [if_neg h, if_neg (fun h2 => h (mem_idsOf.1 h2))]
theorem idsAt_len (I all : List (List UInt8)) : (idsAt I all).length ≤ I.length + all.length := by
  induction all generalizing I with
  | nil => exact Nat.le_refl _
  | cons r t ih =>
    unfold idsAt
    refine Nat.le_trans (ih _) ?_
    split
    · simp only [List.length_cons]; omega
    · simp only [List.length_cons, List.length_append, List.length_nil]; omega
theorem idsOf_len (all : List (List UInt8)) : (idsOf all).length ≤ all.length := by
  have := idsAt_len [] all
  unfold idsOf
  simpa using this
theorem idsAt_32 {I all : List (List UInt8)} (h : ∀ x ∈ I, x.length = 32) : ∀ x ∈ idsAt I all, x.length = 32 := by
  intro x hx
  rcases mem_idsAt.1 hx with h1 | ⟨r, _, h2⟩
  · exact h x h1
  · rw [← h2]; exact sumN_len r
theorem idsOf_32 {all : List (List UInt8)} : ∀ x ∈ idsOf all, x.length = 32 := idsAt_32 (fun _ h => (by cases h))
theorem idsAt_nodup {I all : List (List UInt8)} (h : I.Nodup) : (idsAt I all).Nodup := by
  induction all generalizing I with
  | nil => exact h
  | cons r t ih =>
    unfold idsAt
    apply ih
    split
    · exact h
    · rename_i hn
      rw [List.nodup_append]
      refine ⟨h, by simp, fun a ha b hb e => ?_⟩
      rw [List.mem_singleton] at hb
      exact hn (by rw [← hb, ← e]; exact ha)
theorem idsOf_nodup (all : List (List UInt8)) : (idsOf all).Nodup := idsAt_nodup List.nodup_nil
end Go.Proofs.YtgknihcpmpfocaaDoor
namespace Go.Proofs.YtgknihcpmpfocaaDoor
open Go.RowKit Go.Maps

theorem mapM_all {α β : Type} {f : α → Option β} {g : α → β} : ∀ (l : List α), (∀ a ∈ l, f a = some (g a)) → l.mapM f = some (l.map g)
  | [], _ => by simp
  | a :: l, h => by
    rw [List.mapM_cons, h a List.mem_cons_self, mapM_all l (fun b hb => h b (List.mem_cons_of_mem _ hb))]
    rfl
theorem laidOut : laidOutB Tryd.prog = true := by kernel_rfl
theorem idKey : Keyed Tryd.prog 44 := Keyed.of_law (deep_law_laid laidOut (m := 2) (by omega) (of_decide_eq_true (by kernel_rfl)) (by kernel_rfl) (by rw [Tryd.under44']))
theorem id_cellsOf : Tryd.prog.cellsOf 44 = 32 := by kernel_rfl
theorem u8_cellsOf : Tryd.prog.cellsOf 5 = 1 := by kernel_rfl
theorem id_keyType : Tryd.prog.keyType 44 = true := by kernel_rfl
theorem u8_bytes (c : UInt8) : Lit.keyBytes (.int .u8 (c.toNat : Int)) = [c] := by
  have h := c.toNat_lt
  have e : ((c.toNat : Int) % 2 ^ (IntKind.u8).bits).toNat = c.toNat := by
    show ((c.toNat : Int) % 256).toNat = c.toNat
    omega
  show bytesBE 1 _ = _
  rw [e]
  unfold bytesBE bytesLE bytesLE
  simp
theorem u8_lit (n : Nat) (c : UInt8) : Tryd.prog.keyLits (n + 1) 5 [.int .u8 (c.toNat : Int)] = some [.int .u8 (c.toNat : Int)] := by
  unfold Program.keyLits
  rw [Tryd.underlying5]
  have h := c.toNat_lt
  have hw : (Lit.int .u8 (c.toNat : Int)).wf = true := by
    have e : ∀ m : Nat, m < 256 → (Lit.int .u8 (m : Int)).wf = true := by decide +kernel
    exact e _ h
  simp [hw]
theorem bv_cut {X : List UInt8} {i : Nat} (h : i < X.length) : ((bv X).drop (i * 1)).take 1 = [.int .u8 ((X.getD i 0).toNat : Int)] := by
  have h2 : i < (bv X).length := by rw [bv_len]; exact h
  rw [Nat.mul_one, List.drop_eq_getElem_cons h2, List.take_succ_cons, List.take_zero]
  congr 1
  apply Option.some.inj
  rw [← List.getElem?_eq_getElem h2, ← List.getElem?_toArray, bv_at h]
  simp [List.getElem?_eq_getElem h]
theorem id_key {X : List UInt8} (h : X.length = 32) : keyOf Tryd.prog 44 (.agg (bv X).toArray) = some (.string X) := by
  unfold keyOf
  rw [Tryd.under44']
  have hf : (Value.agg (bv X).toArray).formed Tryd.prog 44 = true := by
    unfold Value.formed
    simp only [Tryd.under44', id_cellsOf, bv_size h]
    rfl
  have hc : (Value.agg (bv X).toArray).cells.toList = bv X := by simp [Value.cells]
  simp only [id_keyType, hf, Bool.and_self, if_true, hc]
  unfold Program.keyLits
  simp only [Tryd.under44', id_cellsOf, bv_len, h, if_true, u8_cellsOf]
  obtain ⟨m, hm⟩ : ∃ m, Tryd.prog.types.size = m + 1 := ⟨Tryd.prog.types.size - 1, by kernel_rfl⟩
  rw [hm]
  rw [mapM_all (g := fun i => [Lit.int .u8 ((X.getD i 0).toNat : Int)]) _ (fun i hi => by
    rw [bv_cut (by rw [h]; exact List.mem_range.1 hi)]
    exact u8_lit _ _)]
  simp only [Option.map_some]
  refine congrArg (fun z => some (Lit.string z)) ?_
  have e : ∀ (l : List Nat), keyBytes (l.map fun i => [Lit.int .u8 ((X.getD i 0).toNat : Int)]).flatten = l.map fun i => X.getD i 0 := by
    intro l
    induction l with
    | nil => rfl
    | cons a l ih =>
      rw [List.map_cons, List.flatten_cons, List.map_cons, ← ih]
      unfold keyBytes
      rw [List.flatMap_append, List.flatMap_cons, u8_bytes, List.flatMap_nil]
      rfl
  rw [e]
  refine List.ext_getElem (by simp [h]) (fun i h1 h2 => ?_)
  simp [List.getElem?_eq_getElem h2]
/-- A place as a datum. -/
def placeD (p : Nat × Nat) : DataW Unit := .agg [.lit (.int .i64 (p.1 : Int)), .lit (.int .i64 (p.2 : Int))]
def placeV (p : Nat × Nat) : Value := .agg #[.int .i64 (p.1 : Int), .int .i64 (p.2 : Int)]
def placeL : List Value → Option (DataW Unit × List MemPlace)
  | [.int .i64 a, .int .i64 b] => some (.agg [.lit (.int .i64 a), .lit (.int .i64 b)], [])
  | _ => none
def placeR : Value → Option (DataW Unit × List MemPlace)
  | .agg cs => placeL cs.toList
  | _ => none
theorem placeL_inv {l : List Value} {p : Nat × Nat} {ps : List MemPlace} (h : placeL l = some (placeD p, ps)) : l = [.int .i64 (p.1 : Int), .int .i64 (p.2 : Int)] := by
  unfold placeL at h
  split at h
  · simp only [Option.some.injEq, Prod.mk.injEq, placeD, DataW.agg.injEq, List.cons.injEq, DataW.lit.injEq, Lit.int.injEq] at h
    obtain ⟨⟨⟨_, h1⟩, ⟨_, h2⟩, _⟩, _⟩ := h
    rw [h1, h2]
  · cases h
theorem placeR_of (p : Nat × Nat) : placeR (placeV p) = some (placeD p, []) := rfl
theorem placeR_inv {v : Value} {p : Nat × Nat} {ps : List MemPlace} (h : placeR v = some (placeD p, ps)) : v = placeV p := by
  unfold placeR at h
  split at h
  · rename_i cs
    have h2 := placeL_inv h
    have h3 : cs = #[.int .i64 (p.1 : Int), .int .i64 (p.2 : Int)] := by
      apply Array.toList_inj.1
      rw [h2]
    rw [h3]; rfl
  · cases h
def zeroPlace : Nat × Nat := (0, 0)
theorem placeZero (w : World) : (zeroValue 62).run Tryd.prog w = .ok (placeV zeroPlace) w := by kernel_rfl
structure PMap (w : World) (b n : Nat) (D : DataW Unit) (pl : List UInt8 → Option (Nat × Nat)) : Prop where
  own : w.ownsMap Tryd.prog 44 placeR b n D
  at_ : ∀ x z, x.length = 32 → D.atKey (.string x) z = match pl x with
    | none => z
    | some p => placeD p
theorem PMap.kept {w w' : World} {b n : Nat} {D : DataW Unit} {pl : List UInt8 → Option (Nat × Nat)} (h : PMap w b n D pl) (hk : w'.heap[b]? = w.heap[b]?) : PMap w' b n D pl := by
  refine ⟨?_, h.at_⟩
  obtain ⟨es, clock, hb, F, hs, hD⟩ := h.own
  exact ⟨es, clock, hk.trans hb, F, hs, hD⟩
theorem PMap.made (w : World) : PMap (w.alloc (.map #[] 0)) w.heap.size 0 (.map []) (fun _ => none) :=
  ⟨World.ownsMap_made _ _ _ _, fun x z _ => by simp [DataW.atKey]⟩
theorem PMap.look {w : World} {b n : Nat} {D : DataW Unit} {pl : List UInt8 → Option (Nat × Nat)} (h : PMap w b n D pl) {x : List UInt8} (hx : x.length = 32) :
    (Instr.lookup 74 (.map (some b)) (.agg (bv x).toArray) true).run Tryd.prog w = .ok (.tuple #[placeV ((pl x).getD zeroPlace), .bool (pl x).isSome]) w := by
  obtain ⟨v, ps, hrun, hv⟩ := h.own.look_ok idKey Tryd.underlying74 (placeZero w) (placeR_of zeroPlace) (id_key hx)
  rw [hrun]
  rw [h.at_ x _ hx] at hv
  cases hp : pl x with
  | none =>
    have e : has D (.string x) = false := has_false_of_atKey (fun z => by rw [h.at_ x z hx, hp])
    rw [hp] at hv
    rw [e, placeR_inv hv]; rfl
  | some p =>
    have e : has D (.string x) = true := has_true_of_atKey (fun z => by rw [h.at_ x z hx, hp])
    rw [hp] at hv
    rw [e, placeR_inv hv]; rfl
theorem PMap.put {w w' : World} {b n : Nat} {D : DataW Unit} {pl : List UInt8 → Option (Nat × Nat)} (h : PMap w b n D pl) {x : List UInt8} (hp : pl x = none) (p : Nat × Nat)
    (ho : w'.ownsMap Tryd.prog 44 placeR b (n + 1) (D.put (.string x) (placeD p))) : PMap w' b (n + 1) (D.put (.string x) (placeD p)) (noteP pl x p) := by
  refine ⟨ho, fun y z hy => ?_⟩
  unfold noteP
  rw [hp]
  show _ = match (if y = x then some p else pl y) with
    | none => z
    | some p => placeD p
  by_cases e : y = x
  · rw [if_pos e, e, atKey_put_same h.own.isMap (show WideAt.IsKeyLit (.string x) from trivial)]
  · rw [if_neg e, atKey_put_other (fun h2 => e (by injection h2))]
    exact h.at_ y z hy
/-- Ids as cells. -/
def idsV (I : List (List UInt8)) : List Value := (I.map bv).flatten
theorem idsV_snoc (I : List (List UInt8)) (x : List UInt8) : idsV (I ++ [x]) = idsV I ++ bv x := by unfold idsV; simp
structure PackAt (B : Nat) (w : World) (bp bf bm n : Nat) (D : DataW Unit) (vi : Value) (x : Nm) (I : List (List UInt8)) (pl : List UInt8 → Option (Nat × Nat)) : Prop where
  row : w.heap[bp]? = some (.cells #[.pointer (some ⟨bf, 0, none⟩), .string ⟨x.toArray⟩, vi, .map (some bm)] 76 (0, 0))
  ids : w.ownsRow B 44 32 vi I.length (idsV I)
  map : PMap w bm n D pl
  ne : bp ≠ bm
  own : ∀ k, vi.ownBlock = some k → k ≠ bp ∧ k ≠ bm
  big : B ≤ bp ∧ B ≤ bm
def PkT (bp bm : Nat) (vi : Value) (k : Nat) : Prop := k = bp ∨ k = bm ∨ vi.ownBlock = some k
theorem PackAt.kept {B : Nat} {w w' : World} {bp bf bm n : Nat} {D : DataW Unit} {vi : Value} {x : Nm} {I : List (List UInt8)} {pl : List UInt8 → Option (Nat × Nat)} (h : PackAt B w bp bf bm n D vi x I pl) (hk : ∀ k, PkT bp bm vi k → w'.heap[k]? = w.heap[k]?) : PackAt B w' bp bf bm n D vi x I pl :=
  ⟨(hk bp (Or.inl rfl)).trans h.row, row_kept h.ids (fun k hk2 => hk k (Or.inr (Or.inr hk2))), h.map.kept (hk bm (Or.inr (Or.inl rfl))), h.ne, h.own, h.big⟩
theorem PackAt.lt {B : Nat} {w : World} {bp bf bm n : Nat} {D : DataW Unit} {vi : Value} {x : Nm} {I : List (List UInt8)} {pl : List UInt8 → Option (Nat × Nat)} (h : PackAt B w bp bf bm n D vi x I pl) : ∀ k, PkT bp bm vi k → B ≤ k ∧ k < w.heap.size := by
  rintro k (rfl | rfl | hk)
  · exact ⟨h.big.1, (Array.getElem?_eq_some_iff.1 h.row).1⟩
  · exact ⟨h.big.2, h.map.own.lt⟩
  · exact World.ownsRow.lt h.ids k hk
theorem PackAt.cell {B : Nat} {w : World} {bp bf bm n : Nat} {D : DataW Unit} {vi : Value} {x : Nm} {I : List (List UInt8)} {pl : List UInt8 → Option (Nat × Nat)} (h : PackAt B w bp bf bm n D vi x I pl) :
    w.cell? ⟨bp, 0, none⟩ = some (.pointer (some ⟨bf, 0, none⟩)) ∧ w.cell? ⟨bp, 1, none⟩ = some (.string ⟨x.toArray⟩) ∧ w.cell? ⟨bp, 2, none⟩ = some vi ∧ w.cell? ⟨bp, 3, none⟩ = some (.map (some bm)) :=
  ⟨(cell_of_row _ _ _ _ _ _ h.row).trans rfl, (cell_of_row _ _ _ _ _ _ h.row).trans rfl, (cell_of_row _ _ _ _ _ _ h.row).trans rfl, (cell_of_row _ _ _ _ _ _ h.row).trans rfl⟩
end Go.Proofs.YtgknihcpmpfocaaDoor
