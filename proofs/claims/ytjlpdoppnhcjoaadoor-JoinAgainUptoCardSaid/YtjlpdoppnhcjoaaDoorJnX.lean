/- What is merged with the base itself, or with the same: as a side has it. -/
import Derived.Test.YtjlpdoppnhcjoaaDoorJnV
namespace Go.Proofs.YtjlpdoppnhcjoaaDoor
open Go.RowKit Go.Lib
/-- An outcome is a file as it was. -/
def Kept (m : OutM) (f : FileN) : Prop := m.1.kind = 1 ∧ m.1.path = f.path ∧ idL m.1.id = idL f.id ∧ canonB m.1.stamp = canonB f.stamp
def KeptL : List OutM → List FileN → Prop
  | [], [] => True
  | m :: r, f :: l => Kept m f ∧ KeptL r l
  | _, _ => False
theorem KeptL.len : ∀ {L : List OutM} {l : List FileN}, KeptL L l → L.length = l.length
  | [], [], _ => rfl
  | _ :: r, _ :: l, h => by rw [List.length_cons, List.length_cons, KeptL.len h.2]
  | [], _ :: _, h => by cases h
  | _ :: _, [], h => by cases h
theorem KeptL.at : ∀ {L : List OutM} {l : List FileN}, KeptL L l → ∀ i, i < l.length → Kept (L.getD i noneM) (l.getD i noFile)
  | [], [], _, i, hi => by cases hi
  | m :: r, f :: l, h, 0, _ => h.1
  | m :: r, f :: l, h, i + 1, hi => by
    simp only [List.getD_cons_succ]
    exact KeptL.at h.2 i (by simpa using hi)
  | [], _ :: _, h, _, _ => by cases h
  | _ :: _, [], h, _, _ => by cases h
theorem KeptL.clear : ∀ {L : List OutM} {l : List FileN}, KeptL L l → L.all clearB = true
  | [], [], _ => rfl
  | m :: r, f :: l, h => by
    rw [List.all_cons, KeptL.clear h.2]
    unfold clearB
    rw [h.1.1]; rfl
  | [], _ :: _, h => by cases h
  | _ :: _, [], h => by cases h
section
variable {l : Nat → List FileN} {p : List UInt8}
theorem hasK_three {i : Nat} (h : i < 3) : hasK l p 3 i = hasN l p i := by unfold hasK; rw [decide_eq_true h, Bool.true_and]
theorem has_three {i : Nat} (h : i < 3) : (outK l p 3).has i = hasN l p i := hasK_three h
theorem ids_three {i : Nat} (h : i < 3) : (outK l p 3).ids i = if hasN l p i = true then (headF (l i)).id else fun _ => 0 := by
  show idK l p 3 i = _
  unfold idK; rw [hasK_three h]
theorem st_three {i : Nat} (h : i < 3) : stK l p 3 i = if hasN l p i = true then (headF (l i)).stamp else 0 := by unfold stK; rw [hasK_three h]
theorem hasN_same {i j : Nat} (h : l i = l j) : hasN l p i = hasN l p j := by unfold hasN; rw [h]
theorem restN_same {i j : Nat} (h : l i = l j) : restN l p i = restN l p j := by unfold restN; rw [hasN_same h, h]
theorem ids_same {i j : Nat} (hi : i < 3) (hj : j < 3) (h : l i = l j) : (outK l p 3).ids i = (outK l p 3).ids j := by rw [ids_three hi, ids_three hj, hasN_same h, h]
theorem st_same {i j : Nat} (hi : i < 3) (hj : j < 3) (h : l i = l j) : stK l p 3 i = stK l p 3 j := by rw [st_three hi, st_three hj, hasN_same h, h]
end
/-- Times that fit in words. -/
def Words (l : Nat → List FileN) : Prop := ∀ i, i < 3 → ∀ f ∈ l i, f.stamp < 18446744073709551616
theorem Words.st {l : Nat → List FileN} (h : Words l) (p : List UInt8) (i : Nat) (hi : i < 3) : stK l p 3 i < 18446744073709551616 := by
  rw [st_three hi]
  split
  · rename_i hh
    refine h i hi _ ?_
    have h0 := (hasN_len hh).1
    unfold headF
    simp [List.getD, show 0 < (l i).length by omega]
  · omega
theorem restN_sub {l : Nat → List FileN} {p : List UInt8} {i : Nat} : ∀ f ∈ restN l p i, f ∈ l i := by
  intro f hf
  unfold restN at hf
  split at hf
  · exact List.mem_of_mem_drop hf
  · exact hf
theorem Words.rest {l : Nat → List FileN} (h : Words l) (p : List UInt8) : Words (restK l p 3) := fun i hi f hf => by
  rw [restK_three l p hi] at hf
  exact h i hi f (restN_sub f hf)
theorem timeA {has : Nat → Bool} {st : Nat → Nat} (hs : ∀ i, i < 3 → st i < 18446744073709551616) (h1 : has 2 = has 0) (h2 : st 2 = st 0) (h3 : has 1 = true) : canonB (timeN has st) = canonB (st 1) := by
  have k0 := hs 0 (by omega)
  have k1 := hs 1 (by omega)
  unfold timeN
  split
  · exact canon_two _
  · rename_i a
    rw [if_neg (by rw [h3]; decide)]
    split
    · rename_i b
      rw [canon_two, h2]; exact (key_iff k0 k1).1 b.2
    · rw [if_pos ⟨by rw [← h1]; simpa using a, by rw [h2]⟩]; exact canon_two _
theorem timeB {has : Nat → Bool} {st : Nat → Nat} (h1 : has 1 = has 0) (h2 : st 1 = st 0) (h3 : has 2 = true) : canonB (timeN has st) = canonB (st 2) := by
  unfold timeN
  rw [if_neg (by rw [h3]; decide)]
  split
  · exact canon_two _
  · rename_i a
    rw [if_pos ⟨by rw [← h1]; simpa using a, by rw [h2]⟩]; exact canon_two _
theorem timeC {has : Nat → Bool} {st : Nat → Nat} (hs : ∀ i, i < 3 → st i < 18446744073709551616) (h1 : has 2 = has 1) (h2 : st 2 = st 1) (h3 : has 1 = true) : canonB (timeN has st) = canonB (st 1) := by
  have k1 := hs 1 (by omega)
  unfold timeN
  rw [if_neg (by rw [h1, h3]; decide), if_neg (by rw [h3]; decide)]
  split
  · rw [canon_two, h2]
  · split
    · exact canon_two _
    · rw [canon_two, h2]
      rcases (lat_two k1 k1).1 with h | h <;> exact h
/-- One side is what comes out of each step. -/
def OutAs (T : SrcN) (j : Nat) (P : (Nat → List FileN) → Prop) : Prop := (∀ l p, P l → P (restK l p 3)) ∧ ∀ l p, P l → Words l → ∃ m : OutM, decR T (outK l p 3) (stK l p 3) = (0, if hasN l p j = true then some m else none) ∧ (hasN l p j = true → Kept m (headF (l j)))
theorem out_as {T : SrcN} {j : Nat} (hj : j < 3) {P : (Nat → List FileN) → Prop} (h : OutAs T j P) : ∀ (n : Nat) (l : Nat → List FileN), totN l ≤ n → P l → Words l → (joinG T n l).1 = 0 ∧ KeptL (joinG T n l).2 (l j)
  | 0, l, hn, hP, hW => by
    have h3 : j = 0 ∨ j = 1 ∨ j = 2 := by omega
    have h0 : l j = [] := List.length_eq_zero_iff.1 (by unfold totN at hn; rcases h3 with rfl | rfl | rfl <;> omega)
    rw [h0]; exact ⟨rfl, True.intro⟩
  | n + 1, l, hn, hP, hW => by
    cases hc : curAt l 3 with
    | none =>
      have h0 : l j = [] := List.length_eq_zero_iff.1 (curAt_none hc j hj)
      rw [joinG_none hc, h0]; exact ⟨rfl, True.intro⟩
    | some p =>
      have ht := tot_rest hc
      obtain ⟨m, hD, hK⟩ := h.2 l p hP hW
      obtain ⟨i1, i2⟩ := out_as hj h n (restK l p 3) (by omega) (h.1 l p hP) (hW.rest p)
      rw [joinG_some hc, hD, stepG_go rfl]
      rw [restK_three l p hj] at i2
      refine ⟨i1, ?_⟩
      cases hh : hasN l p j
      · rw [if_neg (by decide)]
        unfold restN at i2
        rw [hh, if_neg (by decide)] at i2
        exact i2
      · rw [if_pos rfl]
        unfold restN at i2
        rw [hh, if_pos rfl] at i2
        have h0 := (hasN_len hh).1
        have hk := hK hh
        unfold headF at hk
        generalize l j = lj at *
        cases lj with
        | nil => exact absurd rfl h0
        | cons f r => exact ⟨hk, i2⟩
theorem alike_yes {o : OutN} {a b : Nat} (h1 : o.has a = o.has b) (h2 : o.ids a = o.ids b) : alikeB o a b = true := by
  unfold alikeB; rw [h1, h2, decide_eq_true rfl]; simp
theorem alike_get {o : OutN} {a b : Nat} (h : alikeB o a b = true) : o.has a = o.has b ∧ idL (o.ids a) = idL (o.ids b) := by
  unfold alikeB at h
  rw [Bool.and_eq_true] at h
  exact ⟨by simpa using h.1, of_decide_eq_true h.2⟩
theorem kept_of {l : Nat → List FileN} {p : List UInt8} {j i : Nat} (hj : j < 3) (hh : hasN l p j = true) (hi : idL ((outK l p 3).ids i) = idL ((outK l p 3).ids j)) (ht : canonB (timeN (outK l p 3).has (stK l p 3)) = canonB (stK l p 3 j)) :
    Kept ({ timed (outK l p 3) (stK l p 3) with kind := 1, id := (outK l p 3).ids i }, []) (headF (l j)) := by
  refine ⟨rfl, (hasN_len hh).2.symm, ?_, ?_⟩
  · show idL ((outK l p 3).ids i) = _
    rw [hi, ids_three hj, if_pos hh]
  · show canonB (timeN (outK l p 3).has (stK l p 3)) = _
    rw [ht, st_three hj, if_pos hh]
theorem sideA (T : SrcN) : OutAs T 1 (fun l => l 2 = l 0) := by
  refine ⟨fun l p h => by show restK l p 3 2 = restK l p 3 0; rw [restK_three l p (by omega), restK_three l p (by omega)]; exact restN_same h, fun l p h hW => ?_⟩
  refine ⟨({ timed (outK l p 3) (stK l p 3) with kind := 1, id := (outK l p 3).ids 1 }, []), ?_, fun hh => kept_of (by omega) hh rfl (timeA (hW.st p) ?_ (st_same (by omega) (by omega) h) ?_)⟩
  · have hd : decN (outK l p 3) = 0 := by
      unfold decN
      rw [alike_yes (a := 0) (b := 2) (by rw [has_three (by omega), has_three (by omega)]; exact (hasN_same h).symm) (ids_same (by omega) (by omega) h.symm), Bool.or_true, if_pos rfl]
    unfold decR; rw [if_pos hd, has_three (by omega)]
  · rw [has_three (by omega), has_three (by omega)]; exact hasN_same h
  · rw [has_three (by omega)]; exact hh
theorem sideC (T : SrcN) : OutAs T 1 (fun l => l 2 = l 1) := by
  refine ⟨fun l p h => by show restK l p 3 2 = restK l p 3 1; rw [restK_three l p (by omega), restK_three l p (by omega)]; exact restN_same h, fun l p h hW => ?_⟩
  refine ⟨({ timed (outK l p 3) (stK l p 3) with kind := 1, id := (outK l p 3).ids 1 }, []), ?_, fun hh => kept_of (by omega) hh rfl (timeC (hW.st p) ?_ (st_same (by omega) (by omega) h) ?_)⟩
  · have hd : decN (outK l p 3) = 0 := by
      unfold decN
      rw [alike_yes (a := 1) (b := 2) (by rw [has_three (by omega), has_three (by omega)]; exact (hasN_same h).symm) (ids_same (by omega) (by omega) h.symm), Bool.true_or, if_pos rfl]
    unfold decR; rw [if_pos hd, has_three (by omega)]
  · rw [has_three (by omega), has_three (by omega)]; exact hasN_same h
  · rw [has_three (by omega)]; exact hh
theorem sideB (T : SrcN) : OutAs T 2 (fun l => l 1 = l 0) := by
  refine ⟨fun l p h => by show restK l p 3 1 = restK l p 3 0; rw [restK_three l p (by omega), restK_three l p (by omega)]; exact restN_same h, fun l p h hW => ?_⟩
  have hh1 : (outK l p 3).has 1 = (outK l p 3).has 0 := by rw [has_three (by omega), has_three (by omega)]; exact hasN_same h
  have hi1 := ids_same (p := p) (i := 1) (j := 0) (by omega) (by omega) h
  have htm : hasN l p 2 = true → canonB (timeN (outK l p 3).has (stK l p 3)) = canonB (stK l p 3 2) := fun hh => timeB hh1 (st_same (by omega) (by omega) h) (by rw [has_three (by omega)]; exact hh)
  cases ha : (alikeB (outK l p 3) 1 2 || alikeB (outK l p 3) 0 2)
  · have hd : decN (outK l p 3) = 1 := by
      unfold decN
      rw [ha, if_neg (by decide), alike_yes (a := 0) (b := 1) hh1.symm hi1.symm, if_pos rfl]
    refine ⟨({ timed (outK l p 3) (stK l p 3) with kind := 1, id := (outK l p 3).ids 2 }, []), ?_, fun hh => kept_of (by omega) hh rfl (htm hh)⟩
    unfold decR; rw [if_neg (by rw [hd]; decide), if_pos hd, has_three (by omega)]
  · have hd : decN (outK l p 3) = 0 := by unfold decN; rw [ha, if_pos rfl]
    have h12 : (outK l p 3).has 1 = (outK l p 3).has 2 ∧ idL ((outK l p 3).ids 1) = idL ((outK l p 3).ids 2) := by
      rw [Bool.or_eq_true] at ha
      rcases ha with ha | ha
      · exact alike_get ha
      · have h := alike_get ha
        rw [hh1, hi1]; exact h
    refine ⟨({ timed (outK l p 3) (stK l p 3) with kind := 1, id := (outK l p 3).ids 1 }, []), ?_, fun hh => kept_of (by omega) hh h12.2 (htm hh)⟩
    unfold decR; rw [if_pos hd, h12.1, has_three (by omega)]
theorem first_zero {f : Nat → Int} : ∀ {n i : Nat}, firstF f n i = 0 → ∀ j, i ≤ j → j < i + n → f j = 0
  | 0, i, _, j, h1, h2 => by omega
  | n + 1, i, h, j, h1, h2 => by
    by_cases h0 : f i = 0
    · rw [firstF_step h0] at h
      by_cases e : j = i
      · rw [e]; exact h0
      · exact first_zero h j (by omega) (by omega)
    · rw [firstF_here h0] at h; exact absurd h h0
theorem files_sound {l : List FileN} (h : filesN l = 0) : ∀ i, i < l.length → faultAt l i = 0 := fun i hi => by
  unfold filesN at h
  split at h
  · cases h
  · exact first_zero h i (Nat.zero_le _) (by omega)
/-- No path of these lies under the one ahead of it. -/
theorem files_under {l : List FileN} (h : filesN l = 0) {i : Nat} (h0 : 0 < i) (hi : i < l.length) : underB (pathAt l i) (pathAt l (i - 1)) = false := by
  have hf := files_sound h i hi
  unfold faultAt at hf
  split at hf
  · rename_i hx; exact absurd hf hx
  · rw [if_neg (by omega)] at hf
    split at hf
    · cases hf
    · split at hf
      · cases hf
      · rename_i hx; simpa using hx
theorem up_none {L : List OutM} (h : ∀ k, 0 < k → k < L.length → underB (pathO L k) (pathO L (k - 1)) = false) : ∀ k, k ≤ L.length → upL L k = L ∧ (0 < k → freeN L k = pathO L (k - 1))
  | 0, _ => ⟨rfl, fun h => by omega⟩
  | k + 1, hk => by
    obtain ⟨i1, i2⟩ := up_none h k (by omega)
    have hm : markB L k = false := by
      unfold markB
      by_cases h0 : 0 < k
      · rw [decide_eq_true h0, i2 h0, h k h0 (by omega)]; rfl
      · rw [decide_eq_false h0]; rfl
    refine ⟨by rw [upL_no hm, i1], fun _ => by rw [freeN_no hm]; rfl⟩
theorem kept_path {L : List OutM} {l : List FileN} (h : KeptL L l) {k : Nat} (hk : k < l.length) : pathO L k = pathAt l k := (h.at k hk).2.1
/-- The whole merge leaves one side as it is. -/
theorem merge_as {T : SrcN} {j : Nat} (hj : j < 3) {P : (Nat → List FileN) → Prop} (h : OutAs T j P) (l : Nat → List FileN) (hP : P l) (hW : Words l) (hF : ∀ i, i < 3 → filesN (l i) = 0) : (mergeT T l).1 = 0 ∧ KeptL (mergeT T l).2 (l j) := by
  obtain ⟨h1, h2⟩ := out_as hj h _ l (Nat.le_refl _) hP hW
  rw [mergeT_go hF, h1, if_neg (by simp)]
  refine ⟨rfl, ?_⟩
  have hl := h2.len
  have hu := (up_none (L := (joinG T (totN l) l).2) (fun k k0 k1 => by
    rw [kept_path h2 (by omega), kept_path h2 (by omega)]
    exact files_under (hF j hj) k0 (by omega)) _ (Nat.le_refl _)).1
  show KeptL (upL (joinG T (totN l) l).2 (joinG T (totN l) l).2.length) (l j)
  rw [hu]; exact h2
end Go.Proofs.YtjlpdoppnhcjoaaDoor
