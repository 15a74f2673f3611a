/- The walks of Check, Parent, Join. -/
import Derived.Test.YthigepjddfdbmaaDoorPathG
namespace Go.Proofs.YthigepjddfdbmaaDoor
open Go.RowKit Go.Lib

theorem wrong_any (s : List UInt8) (w : World) (hs : s.length ≤ 140737488355328) : Calls Tryd.prog 38 #[.string ⟨s.toArray⟩] w fun e w' => e = .returned (.bool (!nameB s)) ∧ Below w.heap.size w w' := by
  have HN := Lib.hid (name_any s w hs)
  go_enter Tryd.func38, Tryd.ntmps38
  go_wp2_with fail
  refine HN.out.mono ?_
  rintro e w1 ⟨rfl, hb⟩
  have B := Lib.hid hb
  clear hb
  go_wp2_with fail
  go_ret
  exact ⟨rfl, B.out⟩
/-- The place of the first that is no name; -1: none. -/
def badAt : List (List UInt8) → Int
  | [] => -1
  | x :: r => if nameB x = false then 0 else if badAt r = -1 then -1 else badAt r + 1
theorem badAt_ge (l : List (List UInt8)) : -1 ≤ badAt l := by
  induction l with
  | nil => exact Int.le_refl _
  | cons x r ih => unfold badAt; split; omega; split <;> omega
theorem badAt_all (l : List (List UInt8)) : badAt l = -1 ↔ l.all nameB = true := by
  induction l with
  | nil => simp [badAt]
  | cons x r ih =>
    have := badAt_ge r
    unfold badAt
    rw [List.all_cons]
    by_cases h : nameB x = false
    · rw [if_pos h, h]; simp
    · have h2 : nameB x = true := by simpa using h
      rw [if_neg h, h2]
      by_cases h3 : badAt r = -1
      · rw [if_pos h3, ih.1 h3]; simp
      · rw [if_neg h3]
        have h4 : r.all nameB = false := by
          cases e : r.all nameB
          · rfl
          · exact absurd (ih.2 e) h3
        rw [h4]
        simp; omega
theorem badAt_first {l : List (List UInt8)} {k : Nat} (hk : k < l.length) (h1 : ∀ j, j < k → nameB (l.getD j []) = true) (h2 : nameB (l.getD k []) = false) : badAt l = k := by
  induction l generalizing k with
  | nil => simp at hk
  | cons x r ih =>
    cases k with
    | zero => unfold badAt; rw [if_pos (by simpa using h2)]; rfl
    | succ k =>
      have hx : nameB x = true := by simpa using h1 0 (by omega)
      have := ih (k := k) (by simpa using hk) (fun j hj => by simpa using h1 (j + 1) (by omega)) (by simpa using h2)
      unfold badAt
      rw [if_neg (by rw [hx]; decide), this, if_neg (by omega)]
      omega
theorem badAt_none {l : List (List UInt8)} (h1 : ∀ j, j < l.length → nameB (l.getD j []) = true) : badAt l = -1 := by
  rw [badAt_all, List.all_eq_true]
  intro x hx
  obtain ⟨j, hj, rfl⟩ := List.getElem_of_mem hx
  have := h1 j hj
  rwa [show l.getD j [] = l[j] by simp [List.getD, List.getElem?_eq_getElem hj]] at this
set_option maxRecDepth 100000 in
set_option maxHeartbeats 1000000 in
theorem index_wrong (S : Nat → Prop) (v : Value) (l : List (List UInt8)) (w : World) (hS : ∀ k, S k → k < w.heap.size) (h : StrsC S w v l) (hl : l.length ≤ 9223372036854775807) (hx : ∀ x ∈ l, x.length ≤ 140737488355328) :
    Calls Tryd.prog 53 #[v, .func (.func 38) #[] #[]] w fun e w' => e = .returned (.int .i64 (badAt l)) ∧ Below w.heap.size w w' := by
  have HS := Lib.hid hS
  have H := Lib.hid h
  have HX : Hid (∀ j, j < l.length → (l.getD j []).length ≤ 140737488355328) := Lib.hid (fun j hj => by
    rw [show l.getD j [] = l[j] by simp [List.getD, List.getElem?_eq_getElem hj]]
    exact hx _ (List.getElem_mem hj))
  obtain ⟨a, c, rfl⟩ := h.shape
  have HR := Lib.hid (Below.refl w.heap.size w)
  have HF := Lib.hid (fun k => badAt_first (l := l) (k := k))
  have HN := Lib.hid (badAt_none (l := l))
  generalize badAt l = r at *
  clear h hS hx
  go_enter Tryd.func53, Tryd.ntmps53
  go_wp2_with fail
  go_loopw [8] (fun i wr => ∃ k : Nat, k ≤ l.length ∧ i = .int .i64 k ∧ Hid (∀ j, j < k → nameB (l.getD j []) = true) ∧ Below w.heap.size w wr) (fun i _ => l.length - (intOf i).toNat)
  case atStart => exact ⟨0, Nat.zero_le _, rfl, Lib.hid (fun j hj => absurd hj (by omega)), HR.out⟩
  case round =>
    obtain ⟨k, hk, rfl, hp, hb⟩ := hrel
    have B := Lib.hid hb
    have hsz := hb.size
    clear hb HR
    by_cases hlt : k < l.length
    · obtain ⟨b, rfl, hb1, hb2, hb3⟩ := (H.out.kept (S' := S) (w' := wr) (fun j hj => ⟨hj, B.out.block j (HS.out j hj)⟩)).at (by omega)
      have hc := hb3 k hlt
      have HW := Lib.hid (fun W => wrong_any (l.getD k []) W (HX.out k hlt))
      have HQ : Hid (∀ q, nameB (l.getD k []) = q → q = true → ∀ j, j < k + 1 → nameB (l.getD j []) = true) := Lib.hid (fun q h1 h2 j hj => by
        by_cases e : j = k
        · rw [e, h1, h2]
        · exact hp.out j (by omega))
      have HQ2 : Hid (∀ q, nameB (l.getD k []) = q → q = false → r = k) := Lib.hid (fun q h1 h2 => HF.out k hlt hp.out (by rw [h1, h2]))
      obtain ⟨q, hq⟩ : ∃ q, nameB (l.getD k []) = q := ⟨_, rfl⟩
      rw [hq] at HW
      have HE := Lib.hid hq
      generalize (⟨(l.getD k []).toArray⟩ : ByteArray) = x at *
      clear hb1 hb3 hq
      go_wp2_with fail
      refine (HW.out _).mono ?_
      rintro e w2 ⟨rfl, hb⟩
      have B2 := Lib.hid (B.out.trans (hb.mono hsz))
      clear hb
      cases q
      · have HRK := Lib.hid (HQ2.out _ HE.out rfl)
        go_wp2_with fail
        go_ret
        exact ⟨by rw [HRK.out]; rfl, B2.out⟩
      · go_wp2_with fail
        go_roundw
        case rel => exact ⟨k + 1, by omega, by go_num, Lib.hid (HQ.out _ HE.out rfl), B2.out⟩
        case measure => simp [intOf]; omega
    · have HRK : Hid (r = -1) := Lib.hid (HN.out (fun j hj => hp.out j (by omega)))
      go_wp2_with fail
      go_ret
      exact ⟨by rw [HRK.out]; rfl, B.out⟩
theorem any_wrong (S : Nat → Prop) (v : Value) (l : List (List UInt8)) (w : World) (hS : ∀ k, S k → k < w.heap.size) (h : StrsC S w v l) (hl : l.length ≤ 9223372036854775807) (hx : ∀ x ∈ l, x.length ≤ 140737488355328) :
    Calls Tryd.prog 39 #[v, .func (.func 38) #[] #[]] w fun e w' => e = .returned (.bool (!(l.all nameB))) ∧ Below w.heap.size w w' := by
  have HI := Lib.hid (index_wrong S v l w hS h hl hx)
  have HA := Lib.hid (badAt_all l)
  have hge := badAt_ge l
  obtain ⟨a, c, rfl⟩ := h.shape
  generalize badAt l = r at *
  clear h hS hx
  go_enter Tryd.func39, Tryd.ntmps39
  go_wp2_with fail
  refine HI.out.mono ?_
  rintro e w1 ⟨rfl, hb⟩
  have B := Lib.hid hb
  clear hb
  go_wp2_with fail
  go_ret
  refine ⟨?_, B.out⟩
  have e : (!(l.all nameB)) = decide (0 ≤ r) := by
    cases e : l.all nameB
    · have : r ≠ -1 := fun h => by rw [HA.out.1 h] at e; cases e
      rw [decide_eq_true (by omega)]; rfl
    · rw [HA.out.2 e]; rfl
  rw [e]; rfl
end Go.Proofs.YthigepjddfdbmaaDoor
