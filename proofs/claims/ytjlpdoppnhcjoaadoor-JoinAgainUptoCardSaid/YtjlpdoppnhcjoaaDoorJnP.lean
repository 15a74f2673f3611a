/- The join of three snapshots, as a function; decide's contract over the law's shelf. -/
import Derived.Test.YtjlpdoppnhcjoaaDoorJnQ
import Derived.Test.YtjlpdoppnhcjoaaDoorJnN
namespace Go.Proofs.YtjlpdoppnhcjoaaDoor
open Go.RowKit Go.Lib
/-- An outcome without the place of its text. -/
def bare (m : OutM) : OutM := ({ m.1 with tv := .slice none 0 0 }, m.2)
def mixD (T : SrcN) (o : OutN) : Int × Option OutM := match stopN T o 3 0 with
  | some c => (c, some (o, []))
  | none => (0, some ({ o with kind := mixK T o o.kind }, mixL T o))
/-- What is decided at a path: an error's number, and the outcome, if it stays. -/
def decR (T : SrcN) (o : OutN) (st : Nat → Nat) : Int × Option OutM :=
  if decN o = 0 then (0, if o.has 1 = true then some ({ timed o st with kind := 1, id := o.ids 1 }, []) else none)
  else if decN o = 1 then (0, if o.has 2 = true then some ({ timed o st with kind := 1, id := o.ids 2 }, []) else none)
  else if decN o = 2 then (0, some ({ timed o st with kind := 3 }, []))
  else mixD T { timed o st with kind := 3 }
/-- What decide leaves. -/
def DecQ (D : Int × Option OutM) (fb : Nat) (st : Nat → Nat) (w : World) (b : Bool) (c : Int) (w' : World) : Prop :=
  c = D.1 ∧ w.grownBy w' (some fb) ∧ (c = 0 → b = D.2.isSome ∧ (b = true → ∃ m, D.2 = some (bare m) ∧ FAt w' fb m.1 st ∧ BytesC (fun k => w.heap.size ≤ k ∧ k < w'.heap.size) w' m.1.tv m.2))
theorem nil_bytes (S : Nat → Prop) (w : World) : BytesC S w (.slice none 0 0) [] := Or.inl ⟨rfl, rfl⟩
theorem dec_any (S : Nat → Prop) (bl : Value) (l : List BlobN) (fb : Nat) (o : OutN) (st : Nat → Nat) (w : World) (hS : ∀ k, S k → k < w.heap.size) (hSf : ¬ S fb) (hb : BlobsC S w bl l) (hl : l.length ≤ 4194304) (ht : ∀ b ∈ l, b.text.length ≤ 600) (h : FAt w fb o st) (htv : o.tv = .slice none 0 0) (hst : ∀ i, i < 3 → st i < 18446744073709551616) :
    Calls Tryd.prog 25 #[.pointer (some ⟨fb, 0, none⟩), .iface 33 (.agg #[bl])] w fun e w' => ∃ b c, e = .returned (.tuple #[.bool b, .int .i64 c]) ∧ DecQ (decR (fun f => textOf f l) o st) fb st w b c w' := by
  refine (decide_any (fun W c w' => MixP (fun f => textOf f l) fb { timed o st with kind := 3 } st W c w') fb o st _ w h hst (fun W hF hG _ _ => ?_)).mono ?_
  · have hb2 : BlobsC S W bl l := hb.kept blob_keeps (fun k hk => ⟨hk, hG.block k (hS k hk) (fun e => hSf (by injection e with e; subst e; exact hk))⟩)
    exact mix_any S bl l fb _ st W (fun k hk => Nat.lt_of_lt_of_le (hS k hk) hG.size) hb2 hl ht hF
  · rintro e w' (⟨hd, rfl, hF, hG⟩ | ⟨hd, rfl, hF, hG⟩ | ⟨hd, rfl, hF, hG⟩ | ⟨hd, c, W, rfl, hF, hG, hM⟩)
    · refine ⟨_, _, rfl, ?_⟩
      unfold decR; rw [if_pos hd]
      refine ⟨rfl, hG, fun _ => ?_⟩
      cases hh : o.has 1
      · exact ⟨rfl, fun h => (by cases h)⟩
      · refine ⟨rfl, fun _ => ⟨({ timed o st with kind := 1, id := o.ids 1 }, []), ?_, hF, ?_⟩⟩
        · rw [if_pos rfl]; unfold bare timed; simp only []; rw [← htv]
        · show BytesC _ _ o.tv _; rw [htv]; exact nil_bytes _ _
    · refine ⟨_, _, rfl, ?_⟩
      unfold decR; rw [if_neg (by rw [hd]; decide), if_pos hd]
      refine ⟨rfl, hG, fun _ => ?_⟩
      cases hh : o.has 2
      · exact ⟨rfl, fun h => (by cases h)⟩
      · refine ⟨rfl, fun _ => ⟨({ timed o st with kind := 1, id := o.ids 2 }, []), ?_, hF, ?_⟩⟩
        · rw [if_pos rfl]; unfold bare timed; simp only []; rw [← htv]
        · show BytesC _ _ o.tv _; rw [htv]; exact nil_bytes _ _
    · refine ⟨_, _, rfl, ?_⟩
      unfold decR; rw [if_neg (by rw [hd]; decide), if_neg (by rw [hd]; decide), if_pos hd]
      refine ⟨rfl, hG, fun _ => ⟨rfl, fun _ => ⟨({ timed o st with kind := 3 }, []), ?_, hF, ?_⟩⟩⟩
      · unfold bare timed; simp only []; rw [← htv]
      · show BytesC _ _ o.tv _; rw [htv]; exact nil_bytes _ _
    · refine ⟨_, _, rfl, ?_⟩
      unfold decR; rw [if_neg (by rw [hd]; decide), if_neg (by rw [hd]; decide), if_neg (by rw [hd]; decide)]
      obtain ⟨hG2, hQ⟩ := hM
      unfold mixD
      cases hs : stopN (fun f => textOf f l) { timed o st with kind := 3 } 3 0 with
      | some c0 =>
        rw [hs] at hQ
        obtain ⟨rfl, hF2⟩ := hQ
        refine ⟨rfl, gbt hG hG2, fun _ => ⟨rfl, fun _ => ⟨({ timed o st with kind := 3 }, []), ?_, hF2, ?_⟩⟩⟩
        · unfold bare timed; simp only []; rw [← htv]
        · show BytesC _ _ o.tv _; rw [htv]; exact nil_bytes _ _
      | none =>
        rw [hs] at hQ
        obtain ⟨rfl, v, hF2, hB2⟩ := hQ
        refine ⟨rfl, gbt hG hG2, fun _ => ⟨rfl, fun _ => ⟨({ timed o st with kind := mixK (fun f => textOf f l) { timed o st with kind := 3 } 3, tv := v }, mixL (fun f => textOf f l) { timed o st with kind := 3 }), ?_, hF2, ?_⟩⟩⟩
        · unfold bare timed; simp only []; rw [← htv]
        · exact hB2.kept (S' := fun k => w.heap.size ≤ k ∧ k < w'.heap.size) (fun k hk => ⟨⟨Nat.le_trans hG.size hk.1, hk.2⟩, rfl⟩)
/-- How many files are left. -/
def totN (l : Nat → List FileN) : Nat := (l 0).length + (l 1).length + (l 2).length
def stepG (d : Int × Option OutM) (r : Int × List OutM) : Int × List OutM := if d.1 ≠ 0 then (d.1, []) else (r.1, d.2.toList ++ r.2)
/-- The outcomes ahead of what is blocked. -/
def joinG (T : SrcN) : Nat → (Nat → List FileN) → Int × List OutM
  | 0, _ => (0, [])
  | n + 1, l => match curAt l 3 with
    | none => (0, [])
    | some p => stepG (decR T (outK l p 3) (stK l p 3)) (joinG T n (restK l p 3))
theorem curAt_at {l : Nat → List FileN} : ∀ {k : Nat} {p : List UInt8}, curAt l k = some p → ∃ i, i < k ∧ (l i).length ≠ 0 ∧ headP (l i) = p
  | 0, _, h => by cases h
  | k + 1, p, h => by
    have e : stepC (l k).length (headP (l k)) (curAt l k) = some p := h
    unfold stepC at e
    split at e
    · rename_i hw
      injection e with e
      refine ⟨k, by omega, fun h0 => ?_, e⟩
      rw [h0] at hw
      cases hc : curAt l k <;> rw [hc] at hw <;> simp [wantB] at hw
    · obtain ⟨i, h1, h2, h3⟩ := curAt_at e
      exact ⟨i, by omega, h2, h3⟩
theorem curAt_none {l : Nat → List FileN} : ∀ {k : Nat}, curAt l k = none → ∀ i, i < k → (l i).length = 0
  | 0, _, _, h => by omega
  | k + 1, h, i, hi => by
    have e : stepC (l k).length (headP (l k)) (curAt l k) = none := h
    unfold stepC at e
    split at e
    · cases e
    · rename_i hw
      by_cases hk : i = k
      · subst hk
        rw [e] at hw
        simpa [wantB] using hw
      · exact curAt_none e i (by omega)
theorem restN_len (l : Nat → List FileN) (p : List UInt8) (i : Nat) : (restN l p i).length ≤ (l i).length := by
  unfold restN; split
  · rw [List.length_drop]; omega
  · exact Nat.le_refl _
theorem restN_less {l : Nat → List FileN} {p : List UInt8} {i : Nat} (h0 : (l i).length ≠ 0) (hp : headP (l i) = p) : (restN l p i).length < (l i).length := by
  have h : hasN l p i = true := by rw [hasN_dec h0, decide_eq_true hp]
  unfold restN; rw [if_pos h, List.length_drop]; omega
theorem restK_three (l : Nat → List FileN) (p : List UInt8) {i : Nat} (h : i < 3) : restK l p 3 i = restN l p i := by unfold restK; rw [if_pos h]
theorem tot_rest {l : Nat → List FileN} {p : List UInt8} (h : curAt l 3 = some p) : totN (restK l p 3) < totN l := by
  obtain ⟨i, hi, h0, hp⟩ := curAt_at h
  have hl := restN_less h0 hp
  have a0 := restN_len l p 0
  have a1 := restN_len l p 1
  have a2 := restN_len l p 2
  unfold totN
  rw [restK_three l p (show 0 < 3 by omega), restK_three l p (show 1 < 3 by omega), restK_three l p (show 2 < 3 by omega)]
  have h3 : i = 0 ∨ i = 1 ∨ i = 2 := by omega
  rcases h3 with rfl | rfl | rfl <;> omega
theorem joinG_none {T : SrcN} {n : Nat} {l : Nat → List FileN} (h : curAt l 3 = none) : joinG T n l = (0, []) := by
  cases n with
  | zero => rfl
  | succ n => rw [joinG, h]
theorem joinG_some {T : SrcN} {n : Nat} {l : Nat → List FileN} {p : List UInt8} (h : curAt l 3 = some p) : joinG T (n + 1) l = stepG (decR T (outK l p 3) (stK l p 3)) (joinG T n (restK l p 3)) := by rw [joinG, h]
/-- Fuel doesn't matter. -/
theorem joinG_two (T : SrcN) : ∀ (n m : Nat) (l : Nat → List FileN), totN l ≤ n → totN l ≤ m → joinG T n l = joinG T m l
  | 0, m, l, h, _ => by
    cases hc : curAt l 3 with
    | none => rw [joinG_none hc, joinG_none hc]
    | some p => have := tot_rest hc; omega
  | n + 1, m, l, h, h2 => by
    cases hc : curAt l 3 with
    | none => rw [joinG_none hc, joinG_none hc]
    | some p =>
      have ht := tot_rest hc
      obtain ⟨m', rfl⟩ : ∃ m', m = m' + 1 := ⟨m - 1, by omega⟩
      rw [joinG_some hc, joinG_some hc, joinG_two T n m' _ (by omega) (by omega)]
theorem joinG_fuel (T : SrcN) (n : Nat) (l : Nat → List FileN) (h : totN l ≤ n) : joinG T n l = joinG T (totN l) l := joinG_two T n _ l h (Nat.le_refl _)
theorem bare_path (l : List OutM) (i : Nat) : pathO (l.map bare) i = pathO l i := by
  unfold pathO
  simp only [List.getD, List.getElem?_map]
  cases l[i]? <;> rfl
theorem bare_free (l : List OutM) : ∀ k, freeN (l.map bare) k = freeN l k
  | 0 => rfl
  | k + 1 => by unfold freeN; rw [bare_path, bare_free l k]
theorem bare_mark (l : List OutM) (k : Nat) : markB (l.map bare) k = markB l k := by unfold markB; rw [bare_path, bare_free]
theorem bare_getD (l : List OutM) (k : Nat) : (l.map bare).getD k noneM = bare (l.getD k noneM) := by
  simp only [List.getD, List.getElem?_map]
  cases l[k]? <;> rfl
/-- Marks and places of texts don't meet. -/
theorem bare_up (l : List OutM) : ∀ k, (upL l k).map bare = upL (l.map bare) k
  | 0 => rfl
  | k + 1 => by
    cases h : markB l k
    · rw [upL_no h, upL_no (by rw [bare_mark]; exact h), bare_up l k]
    · rw [upL_yes h, upL_yes (by rw [bare_mark]; exact h), List.map_set, bare_up l k, bare_getD]; rfl
/-- What Merge answers: an error's number, and the outcomes. -/
def mergeT (T : SrcN) (l : Nat → List FileN) : Int × List OutM :=
  if filesN (l 0) ≠ 0 then (filesN (l 0), []) else if filesN (l 1) ≠ 0 then (filesN (l 1), []) else if filesN (l 2) ≠ 0 then (filesN (l 2), [])
  else if (joinG T (totN l) l).1 ≠ 0 then ((joinG T (totN l) l).1, []) else (0, upL (joinG T (totN l) l).2 (joinG T (totN l) l).2.length)
end Go.Proofs.YtjlpdoppnhcjoaaDoor
