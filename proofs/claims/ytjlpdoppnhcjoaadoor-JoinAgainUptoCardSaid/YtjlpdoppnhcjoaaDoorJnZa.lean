/- A merge that is clean: its files are sound, and merged once more they are as they were. -/
import Derived.Test.YtjlpdoppnhcjoaaDoorJnX
namespace Go.Proofs.YtjlpdoppnhcjoaaDoor
open Go.RowKit Go.Lib
theorem clt_trans {a b c : List UInt8} (h1 : cmpP a b < 0) (h2 : cmpP b c < 0) : cmpP a c < 0 := by
  have h := cmpP_trans a b c (by omega) (by omega)
  by_cases h0 : cmpP a c = 0
  · rw [cmpP_zero] at h0
    subst h0
    have := cmpP_neg a b
    omega
  · omega
theorem cle_lt {a b c : List UInt8} (h1 : cmpP a b ≤ 0) (h2 : cmpP b c < 0) : cmpP a c < 0 := by
  by_cases h0 : cmpP a b = 0
  · rw [cmpP_zero] at h0; rw [h0]; exact h2
  · exact clt_trans (by omega) h2
/-- Files in the order of their paths. -/
def Asc (l : List FileN) : Prop := l.Pairwise fun a b => cmpP a.path b.path < 0
def Asc3 (l : Nat → List FileN) : Prop := ∀ i, i < 3 → Asc (l i)
theorem asc_of {l : List FileN} (h : ∀ i, 0 < i → i < l.length → cmpP (pathAt l (i - 1)) (pathAt l i) < 0) : Asc l := by
  have key : ∀ j i, i < j → j < l.length → cmpP (pathAt l i) (pathAt l j) < 0 := by
    intro j
    induction j with
    | zero => intro i hi; omega
    | succ j ih =>
      intro i hi hj
      have h1 := h (j + 1) (by omega) hj
      rw [Nat.add_sub_cancel] at h1
      by_cases e : i = j
      · rw [e]; exact h1
      · exact clt_trans (ih i (by omega) (by omega)) h1
  refine List.pairwise_iff_getElem.2 (fun i j hi hj hij => ?_)
  have h2 := key j i hij hj
  unfold pathAt at h2
  simpa [List.getD, hi, hj] using h2
theorem files_asc {l : List FileN} (h : filesN l = 0) : Asc l := asc_of (fun i h0 hi => by
  have hf := files_sound h i hi
  unfold faultAt at hf
  split at hf
  · rename_i hx; exact absurd hf hx
  · rw [if_neg (by omega)] at hf
    split at hf
    · cases hf
    · rename_i hx
      have := cmpP_neg (pathAt l (i - 1)) (pathAt l i)
      omega)
theorem files_check {l : List FileN} (h : filesN l = 0) : ∀ f ∈ l, checkN f.path = 0 := by
  intro f hf
  obtain ⟨i, hi, rfl⟩ := List.getElem_of_mem hf
  have h2 := files_sound h i hi
  unfold faultAt at h2
  split at h2
  · rename_i hx; exact absurd h2 hx
  · rename_i hx
    have e : pathAt l i = l[i].path := by unfold pathAt; simp [List.getD, hi]
    rw [e] at hx
    simpa using hx
theorem cur_least {l : Nat → List FileN} : ∀ {k : Nat} {p : List UInt8}, curAt l k = some p → ∀ i, i < k → (l i).length ≠ 0 → cmpP p (headP (l i)) ≤ 0
  | 0, _, h, _, _, _ => by cases h
  | k + 1, p, h, i, hi, h0 => by
    have e : stepC (l k).length (headP (l k)) (curAt l k) = some p := h
    unfold stepC at e
    split at e
    · rename_i hw
      injection e with e
      by_cases hk : i = k
      · rw [hk, e, cmpP_self]; omega
      · cases hc : curAt l k with
        | none => exact absurd (curAt_none hc i (by omega)) h0
        | some q =>
          rw [hc] at hw
          have h1 := cur_least hc i (by omega) h0
          have h2 : cmpP (headP (l k)) q < 0 := by
            unfold wantB at hw
            rw [Bool.and_eq_true] at hw
            exact of_decide_eq_true hw.2
          rw [← e]
          exact cmpP_trans _ _ _ (by omega) h1
    · rename_i hw
      by_cases hk : i = k
      · subst hk
        rw [e] at hw
        unfold wantB at hw
        simp only [decide_eq_true h0, Bool.true_and] at hw
        have hn : ¬ cmpP (headP (l i)) p < 0 := by simpa using hw
        have := cmpP_neg p (headP (l i))
        omega
      · exact cur_least e i (by omega) h0
/-- What is left lies behind the path that was taken. -/
theorem rest_above {l : Nat → List FileN} {p : List UInt8} (hc : curAt l 3 = some p) (ha : Asc3 l) {i : Nat} (hi : i < 3) : ∀ f ∈ restN l p i, cmpP p f.path < 0 := by
  intro f hf
  have hA := ha i hi
  have hL := cur_least hc i hi
  cases hh : hasN l p i
  · unfold restN at hf
    rw [hh, if_neg (by decide)] at hf
    have h0 : (l i).length ≠ 0 := fun e => by rw [List.length_eq_zero_iff.1 e] at hf; cases hf
    have h1 := hL h0
    have h2 : headP (l i) ≠ p := by rw [hasN_dec h0] at hh; exact of_decide_eq_false hh
    unfold headP at h1 h2
    generalize l i = li at *
    cases li with
    | nil => exact absurd rfl h0
    | cons g r =>
      have h3 : cmpP p g.path < 0 := by
        have h4 : cmpP p g.path ≤ 0 := h1
        by_cases e : cmpP p g.path = 0
        · rw [cmpP_zero] at e; exact absurd e.symm h2
        · omega
      rcases List.mem_cons.1 hf with rfl | hf
      · exact h3
      · exact clt_trans h3 ((List.pairwise_cons.1 hA).1 f hf)
  · obtain ⟨h0, hp⟩ := hasN_len hh
    unfold restN at hf
    rw [hh, if_pos rfl] at hf
    unfold headP at hp
    generalize l i = li at *
    cases li with
    | nil => exact absurd rfl h0
    | cons g r =>
      have e : g.path = p := hp
      rw [← e]
      exact (List.pairwise_cons.1 hA).1 f hf
theorem Asc3.rest {l : Nat → List FileN} (h : Asc3 l) (p : List UInt8) : Asc3 (restK l p 3) := fun i hi => by
  rw [restK_three l p hi]
  unfold restN
  split
  · exact (h i hi).sublist (List.drop_sublist _ _)
  · exact h i hi
/-- What an outcome has of its path. -/
theorem decR_of {T : SrcN} {o : OutN} {st : Nat → Nat} {m : OutM} (h : (decR T o st).2 = some m) : m.1.path = o.path ∧ m.1.stamp = timeN o.has st ∧ m.1.has = o.has ∧ m.1.ids = o.ids := by
  unfold decR at h
  split at h
  · simp only [] at h
    split at h
    · injection h with h; subst h; exact ⟨rfl, rfl, rfl, rfl⟩
    · cases h
  · split at h
    · simp only [] at h
      split at h
      · injection h with h; subst h; exact ⟨rfl, rfl, rfl, rfl⟩
      · cases h
    · split at h
      · injection h with h; subst h; exact ⟨rfl, rfl, rfl, rfl⟩
      · unfold mixD at h
        split at h
        · injection h with h; subst h; exact ⟨rfl, rfl, rfl, rfl⟩
        · injection h with h; subst h; exact ⟨rfl, rfl, rfl, rfl⟩
theorem stepG_mem {d : Int × Option OutM} {r : Int × List OutM} {m : OutM} (h : m ∈ (stepG d r).2) : d.2 = some m ∨ m ∈ r.2 := by
  unfold stepG at h
  split at h
  · cases h
  · rcases List.mem_append.1 h with h | h
    · left
      cases hd : d.2 with
      | none => rw [hd] at h; cases h
      | some x => rw [hd] at h; rw [List.mem_singleton.1 h]
    · exact Or.inr h
theorem join_mem {T : SrcN} : ∀ (n : Nat) (l : Nat → List FileN), Words l → ∀ m ∈ (joinG T n l).2, (∃ i, i < 3 ∧ ∃ f ∈ l i, m.1.path = f.path) ∧ m.1.stamp < 18446744073709551616
  | 0, _, _, m, hm => by cases hm
  | n + 1, l, hW, m, hm => by
    cases hc : curAt l 3 with
    | none => rw [joinG_none hc] at hm; cases hm
    | some p =>
      rw [joinG_some hc] at hm
      rcases stepG_mem hm with h | h
      · obtain ⟨h1, h2, _, _⟩ := decR_of h
        obtain ⟨i, hi, h0, hp⟩ := curAt_at hc
        refine ⟨⟨i, hi, headF (l i), ?_, ?_⟩, ?_⟩
        · unfold headF; simp [List.getD, show 0 < (l i).length by omega]
        · rw [h1]; exact hp.symm
        · rw [h2]; exact timeN_lt (hW.st p)
      · obtain ⟨⟨i, hi, f, hf, e⟩, hs⟩ := join_mem n (restK l p 3) (hW.rest p) m h
        rw [restK_three l p hi] at hf
        exact ⟨⟨i, hi, f, restN_sub f hf, e⟩, hs⟩
theorem join_asc {T : SrcN} : ∀ (n : Nat) (l : Nat → List FileN), Words l → Asc3 l → (joinG T n l).2.Pairwise fun a b => cmpP a.1.path b.1.path < 0
  | 0, _, _, _ => List.Pairwise.nil
  | n + 1, l, hW, hA => by
    cases hc : curAt l 3 with
    | none => rw [joinG_none hc]; exact List.Pairwise.nil
    | some p =>
      have ih := join_asc (T := T) n (restK l p 3) (hW.rest p) (hA.rest p)
      rw [joinG_some hc]
      unfold stepG
      split
      · exact List.Pairwise.nil
      · refine List.pairwise_append.2 ⟨?_, ih, fun a ha b hb => ?_⟩
        · cases (decR T (outK l p 3) (stK l p 3)).2 with
          | none => exact List.Pairwise.nil
          | some x => exact List.pairwise_singleton _ _
        · cases hd : (decR T (outK l p 3) (stK l p 3)).2 with
          | none => rw [hd] at ha; cases ha
          | some x =>
            rw [hd] at ha
            have hax := List.mem_singleton.1 ha
            subst hax
            obtain ⟨h1, _⟩ := decR_of hd
            obtain ⟨⟨i, hi, f, hf, e⟩, _⟩ := join_mem n (restK l p 3) (hW.rest p) b hb
            rw [restK_three l p hi] at hf
            rw [h1, e]
            exact rest_above hc hA hi f hf
theorem up_marked {L : List OutM} {k : Nat} (hk : k < L.length) (hm : markB L k = true) : ∀ n, k < n → n ≤ L.length → ((upL L n).getD k noneM).1.kind = 4
  | 0, h, _ => by omega
  | n + 1, h, hn => by
    by_cases e : k = n
    · subst e
      rw [upL_yes hm]
      have hl : k < (upL L k).length := by rw [upL_len]; exact hk
      simp [List.getD, hl, blk]
    · have ih := up_marked hk hm n (by omega) (by omega)
      cases h2 : markB L n
      · rw [upL_no h2]; exact ih
      · rw [upL_yes h2]
        simp only [List.getD] at ih ⊢
        rw [List.getElem?_set_ne (fun x => e x.symm)]
        exact ih
theorem clean_marks {L : List OutM} (h : (upL L L.length).all clearB = true) : ∀ k, k < L.length → markB L k = false := fun k hk => by
  cases hm : markB L k
  · rfl
  · have h4 := up_marked hk hm L.length hk (Nat.le_refl _)
    have hl : k < (upL L L.length).length := by rw [upL_len]; exact hk
    have hc := List.all_eq_true.1 h ((upL L L.length)[k]'hl) (List.getElem_mem hl)
    have e : (upL L L.length).getD k noneM = (upL L L.length)[k]'hl := by simp [List.getD, hl]
    rw [e] at h4
    unfold clearB at hc
    rw [h4] at hc
    exact absurd hc (by decide)
theorem no_marks {L : List OutM} (h : ∀ k, k < L.length → markB L k = false) : ∀ k, k ≤ L.length → upL L k = L ∧ (0 < k → freeN L k = pathO L (k - 1))
  | 0, _ => ⟨rfl, fun h => by omega⟩
  | k + 1, hk => by
    obtain ⟨i1, _⟩ := no_marks h k (by omega)
    have hm := h k (by omega)
    exact ⟨by rw [upL_no hm, i1], fun _ => by rw [freeN_no hm]; rfl⟩
/-- An outcome's file. -/
def fileO (m : OutM) : FileN := ⟨m.1.path, m.1.id, m.1.stamp⟩
theorem first_none {f : Nat → Int} : ∀ {n i : Nat}, (∀ j, i ≤ j → j < i + n → f j = 0) → firstF f n i = 0
  | 0, _, _ => rfl
  | n + 1, i, h => by rw [firstF_step (h i (Nat.le_refl _) (by omega))]; exact first_none (fun j h1 h2 => h j (by omega) (by omega))
/-- The files of a clean merge are sound. -/
theorem clean_files {T : SrcN} {l : Nat → List FileN} (hF : ∀ i, i < 3 → filesN (l i) = 0) (hW : Words l) (h0 : (mergeT T l).1 = 0) (hc : (mergeT T l).2.all clearB = true) (hl : (mergeT T l).2.length ≤ 256) : filesN ((mergeT T l).2.map fileO) = 0 ∧ (∀ f ∈ (mergeT T l).2.map fileO, f.stamp < 18446744073709551616 ∧ ∃ i, i < 3 ∧ ∃ g ∈ l i, f.path = g.path) := by
  have hA := join_asc (T := T) (totN l) l hW (fun i hi => files_asc (hF i hi))
  have hM := join_mem (T := T) (totN l) l hW
  rw [mergeT_go hF] at h0 hc hl ⊢
  generalize joinG T (totN l) l = J at *
  by_cases hJ : J.1 = 0
  · rw [if_neg (by rw [hJ]; simp)] at hc hl ⊢
    change (upL J.2 J.2.length).all clearB = true at hc
    have hk := clean_marks hc
    have hu := no_marks hk
    change (upL J.2 J.2.length).length ≤ 256 at hl
    show filesN ((upL J.2 J.2.length).map fileO) = 0 ∧ ∀ f ∈ (upL J.2 J.2.length).map fileO, _
    rw [(hu _ (Nat.le_refl _)).1] at hl ⊢
    have hpa : ∀ i, pathAt (J.2.map fileO) i = pathO J.2 i := fun i => by
      unfold pathAt pathO
      simp only [List.getD, List.getElem?_map]
      cases J.2[i]? <;> rfl
    refine ⟨?_, fun f hf => ?_⟩
    · unfold filesN
      rw [List.length_map, if_neg (by omega)]
      refine first_none (fun j _ hj => ?_)
      have hj2 : j < J.2.length := by omega
      have he : pathO J.2 j = J.2[j].1.path := by unfold pathO; simp [List.getD, hj2]
      obtain ⟨⟨i, hi, f, hf, e⟩, _⟩ := hM J.2[j] (List.getElem_mem hj2)
      unfold faultAt
      rw [hpa, hpa, if_neg (by rw [he, e, files_check (hF i hi) f hf]; simp)]
      by_cases hj0 : j = 0
      · rw [if_pos hj0]
      · rw [if_neg hj0]
        have hj1 : j - 1 < J.2.length := by omega
        have he1 : pathO J.2 (j - 1) = J.2[j - 1].1.path := by unfold pathO; simp [List.getD, hj1]
        have hlt := List.pairwise_iff_getElem.1 hA (j - 1) j hj1 hj2 (by omega)
        have hneg := cmpP_neg J.2[j].1.path J.2[j - 1].1.path
        rw [if_neg (by rw [he, he1]; omega)]
        have hm := hk j hj2
        unfold markB at hm
        rw [decide_eq_true (show 0 < j by omega), Bool.true_and, (hu j (by omega)).2 (by omega)] at hm
        rw [if_neg (by rw [hm]; decide)]
    · obtain ⟨m, hm, rfl⟩ := List.mem_map.1 hf
      obtain ⟨h1, h2⟩ := hM m hm
      exact ⟨h2, h1⟩
  · rw [if_pos hJ] at h0; exact absurd h0 hJ
end Go.Proofs.YtjlpdoppnhcjoaaDoor
