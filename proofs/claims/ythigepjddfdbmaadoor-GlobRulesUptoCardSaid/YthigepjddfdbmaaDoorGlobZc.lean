/- The reference's rows, letter, spans and sets; its signs in memory. -/
import Derived.Test.YthigepjddfdbmaaDoorGlobR
import Derived.Test.YthigepjddfdbmaaDoorGlobA
namespace Go.Proofs.YthigepjddfdbmaaDoor
open Go.RowKit Go.Lib

section
variable {α : Type} {ps : List (Option (α → Bool))} {l : List α} {i k : Nat}
/-- The row after i items, at k. -/
def rowM (ps : List (Option (α → Bool))) (l : List α) (i k : Nat) : Prop := Mt (ps.take i) (l.take k)
theorem rowM_start (hk : k ≤ l.length) : rowM ps l 0 k ↔ k = 0 := by
  unfold rowM
  rw [List.take_zero, mt_nil]
  constructor
  · intro h
    have := congrArg List.length h
    rw [List.length_take, List.length_nil] at this
    omega
  · intro h; subst h; exact List.take_zero
theorem take_last (hk : k < l.length) : l.take (k + 1) = l.take k ++ [l[k]] := by
  rw [List.take_add_one, List.getElem?_eq_getElem hk]; rfl
/-- An item that means any number. -/
theorem rowM_many (hp : ps[i]? = some none) (hk : k ≤ l.length) : rowM ps l (i + 1) k ↔ rowM ps l i k ∨ (0 < k ∧ rowM ps l (i + 1) (k - 1)) := by
  unfold rowM
  rw [take_next hp]
  cases k with
  | zero => rw [List.take_zero, mt_snoc_many_nil]; simp
  | succ k => rw [Nat.add_sub_cancel, take_last hk, mt_snoc_many_snoc]; simp
/-- An item that means one thing. -/
theorem rowM_one {f : α → Bool} (hp : ps[i]? = some (some f)) (hk : k ≤ l.length) (d : α) : rowM ps l (i + 1) k ↔ 0 < k ∧ rowM ps l i (k - 1) ∧ f (l.getD (k - 1) d) = true := by
  unfold rowM
  rw [take_next hp]
  cases k with
  | zero =>
    rw [List.take_zero]
    exact ⟨fun h => absurd h mt_snoc_one_nil, fun h => absurd h.1 (by omega)⟩
  | succ k =>
    have hd : l.getD k d = l[k] := by simp [List.getD, List.getElem?_eq_getElem (show k < l.length by omega)]
    rw [Nat.add_sub_cancel, take_last hk, mt_snoc_one, hd]
    simp
theorem rowM_end : rowM ps l ps.length l.length ↔ Mt ps l := by
  unfold rowM; rw [List.take_length, List.take_length]
end


/-- The byte that stands for itself at a place, and the place behind it. -/
def letterN (s : Txt) (k : Nat) : Option (UInt8 × Nat) := if k < s.length ∧ s.getD k 0 = 92 then (if k + 1 < s.length then some (s.getD (k + 1) 0, k + 2) else none) else if k < s.length then some (s.getD k 0, k + 1) else none
theorem drop_at {s : Txt} {k : Nat} (h : k < s.length) : s.drop k = s.getD k 0 :: s.drop (k + 1) := by
  rw [List.drop_eq_getElem_cons h]; simp [List.getD, h]
theorem letter_member (s : Txt) (k : Nat) : memberN (s.drop k) = (letterN s k).map fun p => (p.1, s.drop p.2) := by
  unfold letterN
  by_cases h : k < s.length
  · rw [drop_at h]
    unfold memberN
    by_cases h2 : s.getD k 0 = 92
    · rw [if_pos ⟨h, h2⟩]
      show (if s.getD k 0 = 92 then nextN (s.drop (k + 1)) else _) = _
      rw [if_pos h2]
      by_cases h3 : k + 1 < s.length
      · rw [if_pos h3, drop_at h3]; rfl
      · rw [if_neg h3, List.drop_eq_nil_of_le (by omega)]; rfl
    · rw [if_neg (fun c => h2 c.2), if_pos h]
      show (if s.getD k 0 = 92 then nextN (s.drop (k + 1)) else _) = _
      rw [if_neg h2]; rfl
  · rw [if_neg (fun c => h c.1), if_neg h, List.drop_eq_nil_of_le (by omega)]; rfl
/-- What the reference's letter answers. -/
def LetterP (s : Txt) (k : Nat) (e : Ending) : Prop := match letterN s k with
  | none => ∃ n : Int, e = .returned (.tuple #[.int .u8 0, .int .i64 n, .bool false])
  | some p => e = .returned (.tuple #[.int .u8 (p.1.toNat : Int), .int .i64 (p.2 : Int), .bool true])
set_option maxRecDepth 100000 in
set_option maxHeartbeats 2000000 in
theorem letter_any (s : Txt) (k : Nat) (w : World) (hs : s.length ≤ 4194304) (hk : k ≤ 4194304) :
    Calls Tryd.prog 47 #[.string ⟨s.toArray⟩, .int .i64 (k : Int)] w fun e w' => LetterP s k e ∧ w' = w := by
  by_cases h : k < s.length
  · have hI := fun W => str_at W s k h
    obtain ⟨c, hc⟩ : ∃ c, s.getD k 0 = c := ⟨_, rfl⟩
    rw [hc] at hI
    by_cases h2 : c = 92
    · have g : ((c.toNat : Int) == 92) = true := byte_t _ 92 (by omega) 92 rfl h2
      by_cases h3 : k + 1 < s.length
      · have HL : Hid (letterN s k = some (s.getD (k + 1) 0, k + 2)) := Lib.hid (by unfold letterN; rw [if_pos ⟨h, hc.trans h2⟩, if_pos h3])
        have hJ : ∀ W, (Instr.index 9 (.string ⟨s.toArray⟩) (.int .i64 ((k : Int) + 1))).run Tryd.prog W = .ok (.int .u8 ((s.getD (k + 1) 0).toNat : Nat)) W := fun W => by
          have := str_at W s (k + 1) h3
          rwa [show ((k + 1 : Nat) : Int) = (k : Int) + 1 by omega] at this
        generalize s.getD (k + 1) 0 = d at *
        clear h2 hc
        go_enter Tryd.func47, Tryd.ntmps47
        go_wp2_with fail
        refine bodyPost_ret (v := .tuple #[.int .u8 (d.toNat : Int), .int .i64 ((k + 2 : Nat) : Int), .bool true]) (by simp [results, Tryd.results47, go_sem] <;> omega) rfl ⟨?_, rfl⟩
        unfold LetterP
        rw [HL.out]
      · have HL : Hid (letterN s k = none) := Lib.hid (by unfold letterN; rw [if_pos ⟨h, hc.trans h2⟩, if_neg h3])
        clear h2 hc
        go_enter Tryd.func47, Tryd.ntmps47
        go_wp2_with fail
        refine bodyPost_ret (v := .tuple #[.int .u8 0, .int .i64 ((k : Int) + 1), .bool false]) (by simp [results, Tryd.results47, go_sem]) rfl ⟨?_, rfl⟩
        unfold LetterP
        rw [HL.out]; exact ⟨_, rfl⟩
    · have g : ((c.toNat : Int) == 92) = false := byte_f _ 92 (by omega) 92 rfl h2
      have HL : Hid (letterN s k = some (c, k + 1)) := Lib.hid (by unfold letterN; rw [if_neg (fun x => h2 (hc.symm.trans x.2)), if_pos h, hc])
      clear h2 hc
      go_enter Tryd.func47, Tryd.ntmps47
      go_wp2_with fail
      refine bodyPost_ret (v := .tuple #[.int .u8 (c.toNat : Int), .int .i64 ((k + 1 : Nat) : Int), .bool true]) (by simp [results, Tryd.results47, go_sem]) rfl ⟨?_, rfl⟩
      unfold LetterP
      rw [HL.out]
  · have HL : Hid (letterN s k = none) := Lib.hid (by unfold letterN; rw [if_neg (fun c => h c.1), if_neg h])
    go_enter Tryd.func47, Tryd.ntmps47
    go_wp2_with fail
    refine bodyPost_ret (v := .tuple #[.int .u8 0, .int .i64 (k : Int), .bool false]) (by simp [results, Tryd.results47, go_sem]) rfl ⟨?_, rfl⟩
    unfold LetterP
    rw [HL.out]; exact ⟨_, rfl⟩


theorem letter_lt {s : Txt} {k : Nat} {c : UInt8} {n : Nat} (h : letterN s k = some (c, n)) : k < n ∧ n ≤ s.length := by
  unfold letterN at h
  split at h
  · rename_i hk
    split at h
    · injection h with h; injection h with _ h; omega
    · cases h
  · split at h
    · injection h with h; injection h with _ h; omega
    · cases h
theorem letter_out {s : Txt} {k : Nat} (h : s.length ≤ k) : letterN s k = none := by
  unfold letterN
  rw [if_neg (fun x => absurd x.1 (by omega)), if_neg (by omega)]
theorem pre_one {s : Txt} {n : Nat} {c : UInt8} : ([c] : Txt).isPrefixOf (s.drop n) = true ↔ n < s.length ∧ s.getD n 0 = c := by
  by_cases h : n < s.length
  · rw [drop_at h]
    show (c == s.getD n 0 && true) = true ↔ _
    rw [Bool.and_true, beq_iff_eq]
    exact ⟨fun e => ⟨h, e.symm⟩, fun e => e.2.symm⟩
  · rw [List.drop_eq_nil_of_le (by omega)]
    exact ⟨fun e => (by cases e), fun e => absurd e.1 h⟩
theorem pre_two {s : Txt} {n : Nat} {c d : UInt8} : ([c, d] : Txt).isPrefixOf (s.drop n) = true ↔ n + 1 < s.length ∧ s.getD n 0 = c ∧ s.getD (n + 1) 0 = d := by
  by_cases h : n < s.length
  · rw [drop_at h]
    show (c == s.getD n 0 && ([d] : Txt).isPrefixOf (s.drop (n + 1))) = true ↔ _
    rw [Bool.and_eq_true, beq_iff_eq, pre_one]
    exact ⟨fun e => ⟨e.2.1, e.1.symm, e.2.2⟩, fun e => ⟨e.2.1.symm, e.1, e.2.2⟩⟩
  · rw [List.drop_eq_nil_of_le (by omega)]
    exact ⟨fun e => (by cases e), fun e => absurd e.1 (by omega)⟩
/-- The bytes of a span at a place, and the place behind it. -/
def spanK (s : Txt) (k : Nat) : Option ((Nat × Nat) × Nat) := match letterN s k with
  | none => none
  | some (x, n) => if n + 1 < s.length ∧ s.getD n 0 = 45 ∧ s.getD (n + 1) 0 ≠ 93 then
      (match letterN s (n + 1) with
      | none => none
      | some (y, n2) => if y.toNat < x.toNat then none else some ((x.toNat, y.toNat), n2))
    else if n + 1 = s.length ∧ s.getD n 0 = 45 then none else some ((x.toNat, x.toNat), n)
theorem span_k (s : Txt) (k : Nat) : spanN (s.drop k) = (spanK s k).map fun p => (p.1, s.drop p.2) := by
  unfold spanN spanK
  rw [letter_member]
  cases hL : letterN s k with
  | none => rfl
  | some p =>
    obtain ⟨x, n⟩ := p
    obtain ⟨h1, h2⟩ := letter_lt hL
    simp only [Option.map_some]
    by_cases hA : n + 1 < s.length ∧ s.getD n 0 = 45 ∧ s.getD (n + 1) 0 ≠ 93
    · rw [if_pos hA]
      have hp : ¬ (([45, 93] : Txt).isPrefixOf (s.drop n) = true ∨ ([45] : Txt).isPrefixOf (s.drop n) = false) := by
        rw [pre_two, ← Bool.not_eq_true, pre_one]
        rintro (h | h)
        · exact hA.2.2 h.2.2
        · exact h ⟨by omega, hA.2.1⟩
      rw [if_neg hp, List.drop_drop, letter_member]
      cases letterN s (n + 1) with
      | none => rfl
      | some q =>
        obtain ⟨y, n2⟩ := q
        simp only [Option.map_some]
        split <;> rfl
    · rw [if_neg hA]
      by_cases hB : n + 1 = s.length ∧ s.getD n 0 = 45
      · rw [if_pos hB]
        have hp : ¬ (([45, 93] : Txt).isPrefixOf (s.drop n) = true ∨ ([45] : Txt).isPrefixOf (s.drop n) = false) := by
          rw [pre_two, ← Bool.not_eq_true, pre_one]
          rintro (h | h)
          · omega
          · exact h ⟨by omega, hB.2⟩
        rw [if_neg hp, List.drop_drop, List.drop_eq_nil_of_le (by omega)]; rfl
      · rw [if_neg hB]
        have hp : ([45, 93] : Txt).isPrefixOf (s.drop n) = true ∨ ([45] : Txt).isPrefixOf (s.drop n) = false := by
          rw [pre_two, ← Bool.not_eq_true, pre_one]
          by_cases hc : n < s.length ∧ s.getD n 0 = 45
          · left
            have h3 : n + 1 < s.length := by
              rcases Nat.lt_or_ge (n + 1) s.length with h | h
              · exact h
              · exact absurd ⟨by omega, hc.2⟩ hB
            refine ⟨h3, hc.2, ?_⟩
            exact Classical.byContradiction fun h => hA ⟨h3, hc.2, h⟩
          · exact Or.inr hc
        rw [if_pos hp]; rfl
theorem span_lt {s : Txt} {k : Nat} {p : Nat × Nat} {n : Nat} (h : spanK s k = some (p, n)) : k < n ∧ n ≤ s.length ∧ p.1 ≤ p.2 ∧ p.2 < 256 := by
  unfold spanK at h
  split at h
  · cases h
  · rename_i x m hL
    have h1 := letter_lt hL
    have hx := x.toNat_lt
    split at h
    · split at h
      · cases h
      · rename_i y m2 hL2
        have h2 := letter_lt hL2
        have hy := y.toNat_lt
        split at h
        · cases h
        · injection h with h; injection h with ha hb
          subst ha hb
          refine ⟨by omega, by omega, by show x.toNat ≤ y.toNat; omega, by show y.toNat < 256; omega⟩
    · split at h
      · cases h
      · injection h with h; injection h with ha hb
        subst ha hb
        refine ⟨by omega, by omega, Nat.le_refl _, by show x.toNat < 256; omega⟩
theorem span_out {s : Txt} {k : Nat} (h : s.length ≤ k) : spanK s k = none := by
  unfold spanK; rw [letter_out h]
/-- The set's bytes, from a place on. -/
def setF (s : Txt) : Nat → Bool → S4 → Nat → Option (S4 × Nat)
  | 0, _, _, _ => none
  | f + 1, b, a, k => if b = false ∧ k < s.length ∧ s.getD k 0 = 93 then some (a, k + 1) else match spanK s k with
    | none => none
    | some ((x, y), r) => setF s f false (addUp a x (y + 1 - x)) r
theorem setF_out {s : Txt} {k : Nat} (h : s.length ≤ k) (f : Nat) (b : Bool) (a : S4) : setF s f b a k = none := by
  cases f with
  | zero => rfl
  | succ f => unfold setF; rw [if_neg (fun x => absurd x.2.1 (by omega)), span_out h]
theorem setF_step {s : Txt} {f : Nat} {b : Bool} {a : S4} {k : Nat} (h : ¬ (b = false ∧ k < s.length ∧ s.getD k 0 = 93)) : setF s (f + 1) b a k = match spanK s k with
    | none => none
    | some ((x, y), r) => setF s f false (addUp a x (y + 1 - x)) r := by
  rw [setF, if_neg h]
theorem setF_more {s : Txt} : ∀ (f g : Nat) (b : Bool) (a : S4) (k : Nat), s.length < k + f → s.length < k + g → setF s f b a k = setF s g b a k
  | 0, g, b, a, k, h, _ => by rw [setF_out (by omega), setF_out (by omega)]
  | f, 0, b, a, k, _, h => by rw [setF_out (by omega), setF_out (by omega)]
  | f + 1, g + 1, b, a, k, h1, h2 => by
    unfold setF
    split
    · rfl
    · cases hs : spanK s k with
      | none => rfl
      | some p =>
        obtain ⟨⟨x, y⟩, r⟩ := p
        have := span_lt hs
        exact setF_more f g _ _ _ (by omega) (by omega)
theorem set_k (s : Txt) : ∀ (f : Nat) (a : S4) (k : Nat), setGo f a (s.drop k) = (setF s f false a k).map fun p => (p.1, s.drop p.2)
  | 0, _, _ => rfl
  | f + 1, a, k => by
    unfold setGo setF
    by_cases h : k < s.length ∧ s.getD k 0 = 93
    · rw [if_pos (pre_one.2 h), if_pos ⟨rfl, h⟩, List.drop_drop]; rfl
    · rw [if_neg (fun x => h (pre_one.1 x)), if_neg (fun x => h x.2), span_k]
      cases spanK s k with
      | none => rfl
      | some p =>
        obtain ⟨⟨x, y⟩, r⟩ := p
        exact set_k s f _ _
def notAt (s : Txt) (k : Nat) : Bool := decide (k < s.length ∧ s.getD k 0 = 33)
/-- A set whose first byte stands at a place. -/
def setAt (s : Txt) (k : Nat) : Option (S4 × Nat) := (setF s (s.length + 2) true noneS (if notAt s k = true then k + 1 else k)).map fun p => (if notAt s k = true then othersS p.1 else p.1, p.2)
theorem set_at (s : Txt) (k : Nat) : setN (s.drop k) = (setAt s k).map fun p => (p.1, s.drop p.2) := by
  unfold setN setAt
  have e1 : ([33] : Txt).isPrefixOf (s.drop k) = notAt s k := by
    rw [Bool.eq_iff_iff, pre_one]; unfold notAt; rw [decide_eq_true_eq]
  have e2 : (if notAt s k = true then (s.drop k).drop 1 else s.drop k) = s.drop (if notAt s k = true then k + 1 else k) := by
    split
    · rw [List.drop_drop]
    · rfl
  rw [e1, e2]
  generalize (if notAt s k = true then k + 1 else k) = j
  generalize notAt s k = b
  rw [setF_step (by simp), span_k]
  cases hs : spanK s j with
  | none => rfl
  | some p =>
    obtain ⟨⟨x, y⟩, r⟩ := p
    have := span_lt hs
    simp only [Option.map_some]
    rw [set_k, setF_more ((s.drop r).length + 1) (s.length + 1) _ _ _ (by rw [List.length_drop]; omega) (by omega)]
    cases setF s (s.length + 1) false (addUp noneS x (y + 1 - x)) r with
    | none => rfl
    | some q => rfl
theorem addUp_ok2 {s : S4} (h : s.Ok) {x y : Nat} (hxy : x ≤ y) (hy : y < 256) : (addUp s x (y + 1 - x)).Ok := addUp_ok h _ (by omega)
theorem setF_ok {s : Txt} : ∀ (f : Nat) (b : Bool) (a : S4) (k : Nat) {r : S4} {n : Nat}, a.Ok → setF s f b a k = some (r, n) → r.Ok ∧ k < n ∧ n ≤ s.length
  | 0, _, _, _, _, _, _, h => by cases h
  | f + 1, b, a, k, r, n, ha, h => by
    unfold setF at h
    split at h
    · rename_i hc
      injection h with h; injection h with h1 h2
      subst h1 h2
      exact ⟨ha, by omega, by omega⟩
    · cases hs : spanK s k with
      | none => rw [hs] at h; cases h
      | some p =>
        obtain ⟨⟨x, y⟩, m⟩ := p
        have h1 := span_lt hs
        rw [hs] at h
        have h2 := setF_ok f false (addUp a x (y + 1 - x)) m (addUp_ok2 ha h1.2.2.1 h1.2.2.2) h
        exact ⟨h2.1, by omega, h2.2.2⟩
theorem setAt_ok {s : Txt} {k : Nat} {r : S4} {n : Nat} (h : setAt s k = some (r, n)) : r.Ok ∧ k < n ∧ n ≤ s.length := by
  unfold setAt at h
  cases hs : setF s (s.length + 2) true noneS (if notAt s k = true then k + 1 else k) with
  | none => rw [hs] at h; cases h
  | some p =>
    obtain ⟨a, m⟩ := p
    have h1 := setF_ok _ _ _ _ none_ok hs
    rw [hs] at h
    simp only [Option.map_some] at h
    injection h with h; injection h with h2 h3
    subst h2 h3
    refine ⟨?_, ?_, h1.2.2⟩
    · split
      · exact others_ok _
      · exact h1.1
    · have := h1.2.1
      split at this <;> omega


/-- Block b holds these cells, as a value of type t. -/
structure RowAt (w : World) (b : Nat) (t : TypeId) (vs : List Value) : Prop where
  blk : w.heap[b]? = some (.cells vs.toArray t (0, 0))
theorem RowAt.new (w : World) (t : TypeId) (vs : List Value) : RowAt (w.alloc (.cells vs.toArray t)) w.heap.size t vs := ⟨new_five w _ _⟩
theorem RowAt.kept {w w' : World} {b : Nat} {t : TypeId} {vs : List Value} (h : RowAt w b t vs) (hk : w'.heap[b]? = w.heap[b]?) : RowAt w' b t vs := ⟨hk.trans h.blk⟩
theorem RowAt.lt {w : World} {b : Nat} {t : TypeId} {vs : List Value} (h : RowAt w b t vs) : b < w.heap.size := (Array.getElem?_eq_some_iff.1 h.blk).1
theorem RowAt.cells {w : World} {b : Nat} {t : TypeId} {vs : List Value} (h : RowAt w b t vs) {n : Nat} (hn : vs.length = n) : (loadCellsFrom ⟨b, 0, none⟩ 0 n #[]).run Tryd.prog w = .ok vs.toArray w := by
  have := run_loadCells_list (P := Tryd.prog) w ⟨b, 0, none⟩ vs (fun j v hv => by
    rw [Addr.add_mid, cell_of_row w b _ _ _ _ h.blk]
    simpa using hv)
  rw [hn] at this
  simpa [loadCells] using this
theorem RowAt.write {w : World} {b : Nat} {t : TypeId} {old vs : List Value} (h : RowAt w b t old) (hl : vs.length = old.length) (h1 : ∀ u ∈ vs, u.oneCell' = true) : (storeCells ⟨b, 0, none⟩ vs).run Tryd.prog w = .ok () (w.setRow b vs.toArray) := by
  have := run_storeCells_from (P := Tryd.prog) b t vs 0 old.toArray w h.blk (by simp [hl]) h1
  simpa [hl] using this
theorem RowAt.put {w : World} {b : Nat} {t : TypeId} {old : List Value} (h : RowAt w b t old) (vs : List Value) : RowAt (w.setRow b vs.toArray) b t vs := ⟨setRow_heap w b _ _ _ _ h.blk⟩
theorem RowAt.cell {w : World} {b : Nat} {t : TypeId} {vs : List Value} (h : RowAt w b t vs) (k : Nat) : w.cell? ⟨b, k, none⟩ = vs[k]? := by rw [cell_of_row _ _ _ _ _ _ h.blk]; simp
theorem RowAt.free {w : World} {b : Nat} {t : TypeId} {vs : List Value} (h : RowAt w b t vs) (k : Nat) : w.frozen? ⟨b, k, none⟩ = false := by unfold World.frozen?; rw [h.blk]; simp
theorem RowAt.set {w : World} {b : Nat} {t : TypeId} {vs : List Value} (h : RowAt w b t vs) (k : Nat) (v : Value) : RowAt (w.setCell ⟨b, k, none⟩ v) b t (vs.set k v) := by
  refine ⟨?_⟩
  rw [heap_setCell_same w b k _ _ _ h.blk]
  simp
def n256 : Nat := 256
def n257 : Nat := 257
/-- The cells of a sign: is it a star, and which bytes it takes. -/
def atomC (st : Bool) (f : Nat → Bool) : List Value := .bool st :: (List.range n256).map fun c => .bool (f c)
theorem atom_len (st : Bool) (f : Nat → Bool) : (atomC st f).length = n257 := by unfold atomC; simp [n256, n257]
theorem atom_zero (st : Bool) (f : Nat → Bool) : (atomC st f)[0]? = some (.bool st) := rfl
theorem atom_at (st : Bool) (f : Nat → Bool) {c : Nat} (h : c < 256) : (atomC st f)[c + 1]? = some (.bool (f c)) := by
  unfold atomC
  rw [List.getElem?_cons_succ, List.getElem?_map, List.getElem?_range (by unfold n256; exact h)]; rfl
theorem atom_one (st : Bool) (f : Nat → Bool) : ∀ u ∈ atomC st f, u.oneCell' = true := by
  intro u hu
  unfold atomC at hu
  rcases List.mem_cons.1 hu with rfl | hu
  · rfl
  · obtain ⟨c, _, rfl⟩ := List.mem_map.1 hu; rfl
theorem atom_congr (st : Bool) {f g : Nat → Bool} (h : ∀ c, c < 256 → f c = g c) : atomC st f = atomC st g := by
  unfold atomC
  congr 1
  exact List.map_congr_left fun c hc => by rw [h c (by have := List.mem_range.1 hc; unfold n256 at this; exact this)]
theorem atom_set (st : Bool) (f : Nat → Bool) {c : Nat} (h : c < 256) (b : Bool) : (atomC st f).set (c + 1) (.bool b) = atomC st (fun e => if e = c then b else f e) := by
  apply List.ext_getElem?
  intro j
  rw [List.getElem?_set]
  cases j with
  | zero => rw [if_neg (by omega)]; rfl
  | succ j =>
    by_cases hj : j < 256
    · rw [atom_at _ _ hj, atom_at _ _ hj, atom_len]
      by_cases e : c = j
      · subst e; rw [if_pos rfl, if_pos (by unfold n257; omega), if_pos rfl]
      · rw [if_neg (by omega), if_neg (fun x => e x.symm)]
    · rw [if_neg (by omega), List.getElem?_eq_none (by rw [atom_len]; unfold n257; omega), List.getElem?_eq_none (by rw [atom_len]; unfold n257; omega)]
theorem atom_star (st b : Bool) (f : Nat → Bool) : (atomC st f).set 0 (.bool b) = atomC b f := rfl
def noB : Nat → Bool := fun _ => false
/-- The bytes that a sign takes. -/
def takesF : Option S4 → Nat → Bool
  | none => noB
  | some s => hasS s
theorem at_size2 (w : World) : (sizeOf 80).run Tryd.prog w = .ok n257 w := by rw [Tryd.sizeOf80]; rfl
theorem at_zero2 (w : World) : (zeroValue 80).run Tryd.prog w = .ok (.agg (atomC false noB).toArray) w := by rw [Tryd.zeroValue80]; kernel_rfl
end Go.Proofs.YthigepjddfdbmaaDoor
