/- What outcomes keep of a path's versions; which paths are gone. -/
import Derived.Test.YtjlpdoppnhcjoaaDoorJnZd
namespace Go.Proofs.YtjlpdoppnhcjoaaDoor
open Go.RowKit Go.Lib
theorem findN_skip {p : List UInt8} : ∀ (pre r : List FileN) (k : Nat), (∀ f ∈ pre, f.path ≠ p) → findN p (pre ++ r) k = findN p r (k + pre.length)
  | [], r, k, _ => rfl
  | f :: pre, r, k, h => by
    rw [List.cons_append, findN, if_neg (h f List.mem_cons_self), findN_skip pre r (k + 1) (fun x hx => h x (List.mem_cons_of_mem _ hx)), List.length_cons]
    congr 1; omega
theorem findN_none {p : List UInt8} : ∀ (l : List FileN) (k : Nat), (∀ f ∈ l, f.path ≠ p) → findN p l k = -1
  | [], _, _ => rfl
  | f :: l, k, h => by rw [findN, if_neg (h f List.mem_cons_self)]; exact findN_none l (k + 1) (fun x hx => h x (List.mem_cons_of_mem _ hx))
theorem findN_range {p : List UInt8} : ∀ (l : List FileN) (k : Nat), findN p l k = -1 ∨ ∃ j, j < l.length ∧ findN p l k = ((k + j : Nat) : Int)
  | [], _ => Or.inl rfl
  | f :: l, k => by
    rw [findN]
    split
    · exact Or.inr ⟨0, by simp, by simp⟩
    · rcases findN_range l (k + 1) with h | ⟨j, h1, h2⟩
      · exact Or.inl h
      · exact Or.inr ⟨j + 1, by simpa using h1, by rw [h2]; congr 1; omega⟩
def hasE (l : List FileN) (p : List UInt8) : Bool := decide (0 ≤ findN p l 0)
def fileE (l : List FileN) (p : List UInt8) : FileN := l.getD (findN p l 0).toNat noFile
def idE (l : List FileN) (p : List UInt8) : Nat → UInt8 := if hasE l p = true then (fileE l p).id else fun _ => 0
/-- What was taken lies ahead of what is left. -/
def Ahead (l lc : Nat → List FileN) : Prop := ∀ i, i < 3 → ∃ pre, l i = pre ++ lc i ∧ ∀ f ∈ pre, ∀ j, j < 3 → ∀ g ∈ lc j, cmpP f.path g.path < 0
theorem Ahead.start (l : Nat → List FileN) : Ahead l l := fun i _ => ⟨[], rfl, fun f hf => (by cases hf)⟩
theorem clt_ne {a b : List UInt8} (h : cmpP a b < 0) : a ≠ b := fun e => by rw [e, cmpP_self] at h; omega
theorem cur_mem {lc : Nat → List FileN} {p : List UInt8} (hc : curAt lc 3 = some p) : ∃ j, j < 3 ∧ ∃ g ∈ lc j, g.path = p := by
  obtain ⟨j, hj, h0, hp⟩ := curAt_at hc
  refine ⟨j, hj, headF (lc j), ?_, hp⟩
  unfold headF
  simp [List.getD, show 0 < (lc j).length by omega]
theorem ahead_entry {l lc : Nat → List FileN} {p : List UInt8} (ha : Ahead l lc) (hA : Asc3 lc) (hc : curAt lc 3 = some p) {i : Nat} (hi : i < 3) : hasE (l i) p = hasN lc p i ∧ (hasN lc p i = true → fileE (l i) p = headF (lc i)) := by
  obtain ⟨pre, he, hpre⟩ := ha i hi
  obtain ⟨j, hj, g, hg, hgp⟩ := cur_mem hc
  have hne : ∀ f ∈ pre, f.path ≠ p := fun f hf => by rw [← hgp]; exact clt_ne (hpre f hf j hj g hg)
  have hab := rest_above hc hA hi
  unfold hasE fileE
  rw [he, findN_skip pre _ 0 hne]
  cases hh : hasN lc p i
  · unfold restN at hab
    rw [hh, if_neg (by decide)] at hab
    rw [findN_none _ _ (fun f hf => (clt_ne (hab f hf)).symm)]
    exact ⟨by decide, fun h => by cases h⟩
  · obtain ⟨h0, hp⟩ := hasN_len hh
    unfold headP at hp
    unfold headF
    generalize lc i = li at *
    cases li with
    | nil => exact absurd rfl h0
    | cons x r =>
      have hx : x.path = p := hp
      rw [findN, if_pos hx]
      refine ⟨decide_eq_true (by omega), fun _ => ?_⟩
      simp [List.getD]
theorem Ahead.rest {l lc : Nat → List FileN} {p : List UInt8} (ha : Ahead l lc) (hA : Asc3 lc) (hc : curAt lc 3 = some p) : Ahead l (restK lc p 3) := fun i hi => by
  obtain ⟨pre, he, hpre⟩ := ha i hi
  rw [restK_three lc p hi]
  have hsub : ∀ f ∈ pre, ∀ j, j < 3 → ∀ g ∈ restK lc p 3 j, cmpP f.path g.path < 0 := fun f hf j hj g hg => by
    rw [restK_three lc p hj] at hg
    exact hpre f hf j hj g (restN_sub g hg)
  cases hh : hasN lc p i
  · refine ⟨pre, ?_, hsub⟩
    unfold restN; rw [hh, if_neg (by decide)]; exact he
  · obtain ⟨h0, hp⟩ := hasN_len hh
    unfold restN; rw [hh, if_pos rfl]
    unfold headP at hp
    generalize lc i = li at *
    cases li with
    | nil => exact absurd rfl h0
    | cons x r =>
      refine ⟨pre ++ [x], by rw [he]; simp, fun f hf j hj g hg => ?_⟩
      rcases List.mem_append.1 hf with hf | hf
      · exact hsub f hf j hj g hg
      · rw [List.mem_singleton.1 hf]
        have hx : x.path = p := hp
        rw [restK_three lc p hj] at hg
        rw [hx]
        exact rest_above hc hA hj g hg
/-- What an outcome keeps. -/
def KeepsP (l : Nat → List FileN) (m : OutM) : Prop := (∀ i, i < 3 → m.1.has i = hasE (l i) m.1.path ∧ idL (m.1.ids i) = idL (idE (l i) m.1.path)) ∧ (m.1.kind = 1 → ∃ i, i < 3 ∧ m.1.has i = true ∧ idL (m.1.ids i) = idL m.1.id) ∧ (m.1.kind = 3 → alikeB m.1 1 2 = false)
/-- Did a side change what is gone? -/
def changedB (h : Nat → Bool) (d : Nat → List UInt8) : Bool := (h 1 && h 2) || (h 1 && (!h 0 || decide (d 0 ≠ d 1))) || (h 2 && (!h 0 || decide (d 0 ≠ d 2)))
theorem changed_congr {h h' : Nat → Bool} {d d' : Nat → List UInt8} (hh : ∀ i, i < 3 → h i = h' i) (hd : ∀ i, i < 3 → d i = d' i) : changedB h d = changedB h' d' := by
  unfold changedB
  rw [hh 0 (by omega), hh 1 (by omega), hh 2 (by omega), hd 0 (by omega), hd 1 (by omega), hd 2 (by omega)]
theorem dec_two {o : OutN} (h : decN o ≠ 0) : alikeB o 1 2 = false := by
  unfold decN at h
  split at h
  · exact absurd rfl h
  · rename_i hx
    cases ha : alikeB o 1 2
    · rfl
    · rw [ha, Bool.true_or] at hx; exact absurd rfl hx
theorem dec_keeps {T : SrcN} {o : OutN} {st : Nat → Nat} {m : OutM} (h : (decR T o st).2 = some m) : (m.1.kind = 1 → ∃ i, i < 3 ∧ o.has i = true ∧ idL (o.ids i) = idL m.1.id) ∧ (m.1.kind = 3 → alikeB o 1 2 = false) := by
  unfold decR at h
  split at h
  · simp only [] at h
    split at h
    · rename_i hh
      injection h with h; subst h
      exact ⟨fun _ => ⟨1, by omega, hh, rfl⟩, fun hk => by cases hk⟩
    · cases h
  · rename_i h0
    split at h
    · simp only [] at h
      split at h
      · rename_i hh
        injection h with h; subst h
        exact ⟨fun _ => ⟨2, by omega, hh, rfl⟩, fun hk => by cases hk⟩
      · cases h
    · refine ⟨fun hk => ?_, fun _ => dec_two h0⟩
      exfalso
      split at h
      · injection h with h; subst h; cases hk
      · unfold mixD at h
        split at h
        · injection h with h; subst h; cases hk
        · injection h with h; subst h
          have hk2 : mixK T { timed o st with kind := 3 } 3 = 1 := hk
          unfold mixK at hk2
          split at hk2 <;> cases hk2
theorem dec_gone {T : SrcN} {o : OutN} {st : Nat → Nat} (h : (decR T o st).2 = none) : changedB o.has (fun i => idL (o.ids i)) = false := by
  unfold decR at h
  split at h
  · rename_i h0
    simp only [] at h
    split at h
    · cases h
    · rename_i h1
      have h1f : o.has 1 = false := by simpa using h1
      have ha : (alikeB o 1 2 || alikeB o 0 2) = true := by
        unfold decN at h0
        split at h0
        · assumption
        · split at h0
          · cases h0
          · split at h0 <;> cases h0
      unfold changedB
      rw [h1f, Bool.false_and, Bool.false_and, Bool.false_or, Bool.false_or]
      rw [Bool.or_eq_true] at ha
      rcases ha with ha | ha
      · have := (alike_get ha).1
        rw [← this, h1f]; rfl
      · obtain ⟨a1, a2⟩ := alike_get ha
        rw [a1]
        cases o.has 2
        · rfl
        · simp [a2]
  · split at h
    · rename_i h0 h1
      simp only [] at h
      split at h
      · cases h
      · rename_i h2
        have h2f : o.has 2 = false := by simpa using h2
        have ha : alikeB o 0 1 = true := by
          unfold decN at h1
          split at h1
          · cases h1
          · split at h1
            · assumption
            · split at h1 <;> cases h1
        obtain ⟨a1, a2⟩ := alike_get ha
        unfold changedB
        rw [h2f, Bool.and_false, Bool.false_and, Bool.or_false, Bool.false_or, a1]
        cases o.has 1
        · rfl
        · simp [a2]
    · split at h
      · cases h
      · unfold mixD at h
        split at h <;> cases h
theorem keeps_all {T : SrcN} : ∀ (n : Nat) (l lc : Nat → List FileN), totN lc ≤ n → Asc3 lc → Ahead l lc → (joinG T n lc).1 = 0 → (∀ m ∈ (joinG T n lc).2, KeepsP l m) ∧ (∀ i, i < 3 → ∀ f ∈ lc i, (∃ m ∈ (joinG T n lc).2, m.1.path = f.path) ∨ changedB (fun j => hasE (l j) f.path) (fun j => idL (idE (l j) f.path)) = false)
  | n, l, lc, hn, hA, hH, h0 => by
    cases hc : curAt lc 3 with
    | none =>
      rw [joinG_none hc]
      refine ⟨fun m hm => (by cases hm), fun i hi f hf => ?_⟩
      rw [List.length_eq_zero_iff.1 (curAt_none hc i hi)] at hf
      cases hf
    | some p =>
      have ht := tot_rest hc
      match n, hn with
      | 0, hn => omega
      | n + 1, hn =>
        rw [joinG_some hc] at h0 ⊢
        have hE := fun i (hi : i < 3) => ahead_entry hH hA hc hi
        have hD : (decR T (outK lc p 3) (stK lc p 3)).1 = 0 := by
          by_cases h : (decR T (outK lc p 3) (stK lc p 3)).1 = 0
          · exact h
          · rw [stepG_bad h] at h0; exact absurd h0 h
        rw [stepG_go hD] at h0 ⊢
        obtain ⟨i1, i2⟩ := keeps_all n l (restK lc p 3) (by omega) (hA.rest p) (hH.rest hA hc) h0
        have hh : ∀ i, i < 3 → (outK lc p 3).has i = hasE (l i) p := fun i hi => by rw [has_three hi, (hE i hi).1]
        have hd : ∀ i, i < 3 → (outK lc p 3).ids i = idE (l i) p := fun i hi => by
          unfold idE
          rw [ids_three hi, (hE i hi).1]
          cases hx : hasN lc p i
          · rfl
          · rw [if_pos rfl, if_pos rfl, (hE i hi).2 hx]
        refine ⟨fun m hm => ?_, fun i hi f hf => ?_⟩
        · rcases List.mem_append.1 hm with hm | hm
          · cases hx : (decR T (outK lc p 3) (stK lc p 3)).2 with
            | none => rw [hx] at hm; cases hm
            | some y =>
              rw [hx] at hm
              have hmy := List.mem_singleton.1 hm
              subst hmy
              obtain ⟨e1, _, e3, e4⟩ := decR_of hx
              obtain ⟨k1, k2⟩ := dec_keeps hx
              have e1 : m.1.path = p := e1
              refine ⟨fun j hj => ⟨by rw [e3, e1]; exact hh j hj, by rw [e4, e1, hd j hj]⟩, fun hk => ?_, fun hk => ?_⟩
              · obtain ⟨j, hj, a, b⟩ := k1 hk
                exact ⟨j, hj, by rw [e3]; exact a, by rw [e4]; exact b⟩
              · unfold alikeB
                rw [e3, e4]
                exact k2 hk
          · exact i1 m hm
        · by_cases hfp : f.path = p
          · rw [hfp]
            cases hx : (decR T (outK lc p 3) (stK lc p 3)).2 with
            | none =>
              right
              have hg := dec_gone hx
              rw [changed_congr (h' := fun j => hasE (l j) p) (d' := fun j => idL (idE (l j) p)) hh (fun i hi => by rw [hd i hi])] at hg
              exact hg
            | some y => exact Or.inl ⟨y, by simp, (decR_of hx).1⟩
          · have hf2 : f ∈ restK lc p 3 i := by
              rw [restK_three lc p hi]
              unfold restN
              split
              · rename_i hx
                obtain ⟨_, hp⟩ := hasN_len hx
                unfold headP at hp
                generalize lc i = li at *
                cases li with
                | nil => cases hf
                | cons x r =>
                  rcases List.mem_cons.1 hf with rfl | hf
                  · exact absurd hp hfp
                  · exact hf
              · exact hf
            rcases i2 i hi f hf2 with ⟨m, hm, e⟩ | h
            · exact Or.inl ⟨m, List.mem_append_right _ hm, e⟩
            · exact Or.inr h
def pathsO (L : List OutM) : List (List UInt8) := L.map fun m => m.1.path
theorem up_paths (L : List OutM) : ∀ k, k ≤ L.length → pathsO (upL L k) = pathsO L
  | 0, _ => rfl
  | k + 1, hk => by
    have ih := up_paths L k (by omega)
    cases h : markB L k
    · rw [upL_no h]; exact ih
    · rw [upL_yes h]
      unfold pathsO at *
      rw [List.map_set, ih]
      apply List.ext_getElem?
      intro j
      rw [List.getElem?_set]
      by_cases e : k = j
      · subst e
        rw [if_pos rfl, if_pos (by rw [List.length_map]; omega), List.getElem?_map]
        have hk2 : k < L.length := by omega
        simp [List.getD, hk2, blk]
      · rw [if_neg e]
theorem up_keeps {l : Nat → List FileN} {L : List OutM} (h : ∀ m ∈ L, KeepsP l m) : ∀ k, k ≤ L.length → ∀ m ∈ upL L k, KeepsP l m
  | 0, _ => h
  | k + 1, hk => fun m hm => by
    have ih := up_keeps h k (by omega)
    cases hb : markB L k
    · rw [upL_no hb] at hm; exact ih m hm
    · rw [upL_yes hb] at hm
      rcases List.mem_or_eq_of_mem_set hm with hm | rfl
      · exact ih m hm
      · have hk2 : k < L.length := by omega
        have e : L.getD k noneM = L[k] := by simp [List.getD, hk2]
        have hx := h L[k] (List.getElem_mem hk2)
        rw [e]
        exact ⟨hx.1, fun hk => (by cases hk), fun hk => (by cases hk)⟩
theorem merge_keeps {T : SrcN} {l : Nat → List FileN} (hW : Words l) (h0 : (mergeT T l).1 = 0) : (∀ m ∈ (mergeT T l).2, KeepsP l m) ∧ (pathsO (mergeT T l).2).Nodup ∧ (∀ i, i < 3 → ∀ f ∈ l i, f.path ∈ pathsO (mergeT T l).2 ∨ changedB (fun j => hasE (l j) f.path) (fun j => idL (idE (l j) f.path)) = false) := by
  have hF := mergeT_ok h0
  have hA : Asc3 l := fun i hi => files_asc (hF i hi)
  have hP := join_asc (T := T) (totN l) l hW hA
  have hK := keeps_all (T := T) (totN l) l l (Nat.le_refl _) hA (Ahead.start l)
  rw [mergeT_go hF] at h0 ⊢
  generalize joinG T (totN l) l = J at *
  by_cases hJ : J.1 = 0
  · obtain ⟨k1, k2⟩ := hK hJ
    rw [if_neg (by rw [hJ]; simp)]
    show (∀ m ∈ upL J.2 J.2.length, KeepsP l m) ∧ (pathsO (upL J.2 J.2.length)).Nodup ∧ (∀ i, i < 3 → ∀ f ∈ l i, f.path ∈ pathsO (upL J.2 J.2.length) ∨ _)
    rw [up_paths J.2 _ (Nat.le_refl _)]
    refine ⟨up_keeps k1 _ (Nat.le_refl _), ?_, fun i hi f hf => ?_⟩
    · unfold pathsO
      refine List.pairwise_map.2 (hP.imp (fun {a b} h => clt_ne h))
    · rcases k2 i hi f hf with ⟨m, hm, e⟩ | h
      · exact Or.inl (List.mem_map.2 ⟨m, hm, e⟩)
      · exact Or.inr h
  · rw [if_pos hJ] at h0; exact absurd h0 hJ
theorem keeps_bare {l : Nat → List FileN} {m : OutM} (h : KeepsP l (bare m)) : KeepsP l m := h
theorem merge_paths {T : SrcN} {l : Nat → List FileN} (hW : Words l) (h0 : (mergeT T l).1 = 0) : ∀ q ∈ pathsO (mergeT T l).2, ∃ i, i < 3 ∧ ∃ f ∈ l i, q = f.path := by
  have hF := mergeT_ok h0
  have hM := join_mem (T := T) (totN l) l hW
  rw [mergeT_go hF] at h0 ⊢
  generalize joinG T (totN l) l = J at *
  by_cases hJ : J.1 = 0
  · rw [if_neg (by rw [hJ]; simp)]
    show ∀ q ∈ pathsO (upL J.2 J.2.length), _
    rw [up_paths J.2 _ (Nat.le_refl _)]
    intro q hq
    obtain ⟨m, hm, rfl⟩ := List.mem_map.1 hq
    exact (hM m hm).1
  · rw [if_pos hJ] at h0; exact absurd h0 hJ
/-- An outcome's ids in memory. -/
theorem outc_ids {w : World} {b : Nat} {o : OutN} (h : RF w b 42 n135 (outF o)) {i : Nat} (hi : i < 3) : (loadCellsFrom ⟨b, 39 + i * n32, none⟩ 0 n32 #[]).run Tryd.prog w = .ok (bv (idL (o.ids i))).toArray w := by
  have e : n32 = 32 := rfl
  have q := load_row w b (39 + i * n32) n32 (idF (o.ids i)) (fun j hj => by
    rw [h.cell (k := 39 + i * n32 + j) (by rw [e]; unfold n135; omega)]
    unfold outF idF
    rw [e, if_neg (by omega), if_neg (by omega), if_neg (by omega), if_neg (by omega), if_neg (by omega), if_neg (by omega), show (39 + i * 32 + j - 39) / 32 = i by omega, show (39 + i * 32 + j - 39) % 32 = j by omega])
  rw [idL_row] at q
  exact q
theorem outc_id {w : World} {b : Nat} {o : OutN} (h : RF w b 42 n135 (outF o)) : (loadCellsFrom ⟨b, 2, none⟩ 0 n32 #[]).run Tryd.prog w = .ok (bv (idL o.id)).toArray w := by
  have e : n32 = 32 := rfl
  have q := load_row w b 2 n32 (idF o.id) (fun j hj => by
    rw [h.cell (k := 2 + j) (by unfold n135; omega)]
    unfold outF idF
    rw [if_neg (by omega), if_neg (by omega), if_pos (by omega), show 2 + j - 2 = j by omega])
  rw [idL_row] at q
  exact q
theorem outc_has {w : World} {b : Nat} {o : OutN} (h : RF w b 42 n135 (outF o)) {i : Nat} (hi : i < 3) : w.cell? ⟨b, 36 + i, none⟩ = some (.bool (o.has i)) := by
  rw [h.cell (k := 36 + i) (by unfold n135; omega)]
  unfold outF
  rw [if_neg (by omega), if_neg (by omega), if_neg (by omega), if_neg (by omega), if_neg (by omega), if_pos (by omega), show 36 + i - 36 = i by omega]
/-- The id of a file of a list. -/
theorem file_idc {S : Nat → Prop} {w : World} {a : Option Addr} {c : Nat} {l : List FileN} (h : FilesC S w (.slice a l.length c) l) {j : Nat} (hj : j < l.length) : ∃ g o, a = some ⟨g, o, none⟩ ∧ S g ∧ ∀ W : World, W.heap[g]? = w.heap[g]? → (loadCellsFrom ⟨g, o + j * n34 + 1, none⟩ 0 n32 #[]).run Tryd.prog W = .ok (bv (idL (l.getD j noFile).id)).toArray W := by
  obtain ⟨g, o, e, hg, _, _, hat⟩ := FilesC.at h (by omega)
  refine ⟨g, o, e, hg, fun W hW => ?_⟩
  have e32 : n32 = 32 := rfl
  have q := load_row W g (o + j * n34 + 1) n32 (idF (l.getD j noFile).id) (fun i hi => by
    rw [World.cell?_of_block (w := w) hW, Nat.add_assoc (o + j * n34), hat j hj (1 + i) (by omega)]
    unfold fileF idF
    rw [if_neg (by omega), if_pos (by omega), show 1 + i - 1 = i by omega])
  rw [idL_row] at q
  exact q
end Go.Proofs.YtjlpdoppnhcjoaaDoor
