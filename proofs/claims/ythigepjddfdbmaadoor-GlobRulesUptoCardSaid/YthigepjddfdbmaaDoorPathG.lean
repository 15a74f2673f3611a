/- The walks of Name, Split. -/
import Derived.Test.YthigepjddfdbmaaDoorPathF
import Derived.Test.YthigepjddfdbmaaDoorPathD
import Derived.Deep.MidRow
import Derived.Laws.Rows
namespace Go.Proofs.YthigepjddfdbmaaDoor
open Go.RowKit Go.Lib

theorem sign_any (r : Nat) (w : World) : Calls Tryd.prog 42 #[.int .i32 (r : Int)] w fun e w' => e = .returned (.bool (badR r)) ∧ w = w' := by
  have HB : Hid (badR r = (decide ((r : Int) < 32) || (((r : Int) == 127) || ((r : Int) == 47)))) := Lib.hid (by
    unfold badR
    rw [Bool.eq_iff_iff]
    simp only [decide_eq_true_eq, Bool.or_eq_true, beq_iff_eq]
    omega)
  generalize badR r = q at *
  generalize (r : Int) = x at *
  by_cases h1 : x < 32
  · have g1 : decide (x < 32) = true := decide_eq_true h1
    rw [g1] at HB
    go_enter Tryd.func42, Tryd.ntmps42
    go_wp2_with fail
    go_ret
    exact ⟨by rw [HB.out]; rfl, rfl⟩
  · have g1 : decide (x < 32) = false := decide_eq_false h1
    rw [g1] at HB
    cases h2 : (x == 127)
    · rw [h2] at HB
      cases h3 : (x == 47)
      all_goals
        rw [h3] at HB
        go_enter Tryd.func42, Tryd.ntmps42
        go_wp2_with fail
        go_ret
        exact ⟨by rw [HB.out]; rfl, rfl⟩
    · rw [h2] at HB
      go_enter Tryd.func42, Tryd.ntmps42
      go_wp2_with fail
      go_ret
      exact ⟨by rw [HB.out]; rfl, rfl⟩
theorem enters63 (args : Array Value) (w : World) : (callFunc 42 args).run Tryd.prog w = .ok (.enter 42 args) w := enters_of Tryd.func42 (by kernel_rfl) rfl args w
theorem contains_bad (s : List UInt8) (w : World) : Calls Tryd.prog 41 #[.string ⟨s.toArray⟩, .func (.func 42) #[] #[]] w fun e w' => e = .returned (.bool (!(s.all okB))) ∧ Below w.heap.size w w' := by
  refine (Tryd.strings_ContainsFunc 42 #[] (fun args w => enters63 args w) badR ⟨s.toArray⟩ w (fun W x _ => ?_)).mono ?_
  · exact (sign_any x W).mono fun _ _ ⟨he, hw⟩ => ⟨he, 0, hw.symm⟩
  · rintro e w' ⟨rfl, hb⟩
    exact ⟨by rw [idx_bad], hb⟩
theorem nameB_no {s : List UInt8} (h : ¬ (1 ≤ s.length ∧ s.length ≤ 64 ∧ s ≠ [46] ∧ s ≠ [46, 46])) : nameB s = false := by
  unfold nameB; rw [decide_eq_false h]; rfl
theorem nameB_yes {s : List UInt8} (h : 1 ≤ s.length ∧ s.length ≤ 64 ∧ s ≠ [46] ∧ s ≠ [46, 46]) : nameB s = s.all okB := by
  unfold nameB; rw [decide_eq_true h]; rfl
set_option maxHeartbeats 1000000 in
theorem name_any (s : List UInt8) (w : World) (hs : s.length ≤ 140737488355328) : Calls Tryd.prog 21 #[.string ⟨s.toArray⟩] w fun e w' => e = .returned (.bool (nameB s)) ∧ Below w.heap.size w w' := by
  have HC := Lib.hid (contains_bad s)
  have HR := Lib.hid (Below.refl w.heap.size w)
  by_cases h1 : s.length < 1
  · have HN : Hid (nameB s = false) := Lib.hid (nameB_no (by omega))
    generalize nameB s = q at *
    go_enter Tryd.func21, Tryd.ntmps21
    go_wp2_with fail
    go_ret
    exact ⟨by rw [HN.out]; rfl, HR.out⟩
  · by_cases h2 : 64 < s.length
    · have HN : Hid (nameB s = false) := Lib.hid (nameB_no (by omega))
      generalize nameB s = q at *
      go_enter Tryd.func21, Tryd.ntmps21
      go_wp2_with fail
      go_ret
      exact ⟨by rw [HN.out]; rfl, HR.out⟩
    · by_cases h3 : s = [46]
      · subst h3
        go_enter Tryd.func21, Tryd.ntmps21
        go_wp2_with fail
        go_ret
        exact ⟨rfl, HR.out⟩
      · by_cases h4 : s = [46, 46]
        · subst h4
          go_enter Tryd.func21, Tryd.ntmps21
          go_wp2_with fail
          go_ret
          exact ⟨rfl, HR.out⟩
        · have HN : Hid (nameB s = s.all okB) := Lib.hid (nameB_yes ⟨by omega, by omega, h3, h4⟩)
          have g3 : (s == [46]) = false := by rw [beq_eq_false_iff_ne]; exact h3
          have g4 : (s == [46, 46]) = false := by rw [beq_eq_false_iff_ne]; exact h4
          clear h3 h4
          generalize nameB s = q at *
          generalize s.all okB = ok at *
          go_enter Tryd.func21, Tryd.ntmps21
          go_wp2_with fail
          refine (HC.out _).mono ?_
          rintro e w1 ⟨rfl, hb⟩
          have B := Lib.hid hb
          clear hb
          go_wp2_with fail
          go_ret
          exact ⟨by rw [HN.out]; cases ok <;> rfl, B.out⟩
/-- A slice value whose cells hold these texts. -/
def StrsC (S : Nat → Prop) (w : World) (v : Value) (l : List (List UInt8)) : Prop :=
  (l = [] ∧ ∃ a c, v = .slice a 0 c) ∨ ∃ a cap, v = .slice (some a) l.length cap ∧ S a.block ∧ l.length ≤ cap ∧ ∀ i, i < l.length → w.cell? (a.add i) = some (.string ⟨(l.getD i []).toArray⟩)
theorem StrsC.shape {S : Nat → Prop} {w : World} {v : Value} {l : List (List UInt8)} (h : StrsC S w v l) : ∃ a c, v = .slice a l.length c := by
  rcases h with ⟨rfl, a, c, rfl⟩ | ⟨a, c, rfl, _⟩
  · exact ⟨a, c, rfl⟩
  · exact ⟨some a, c, rfl⟩
theorem StrsC.kept {S S' : Nat → Prop} {w w' : World} {v : Value} {l : List (List UInt8)} (h : StrsC S w v l) (hk : ∀ k, S k → S' k ∧ w'.heap[k]? = w.heap[k]?) : StrsC S' w' v l := by
  rcases h with h | ⟨a, c, h1, h2, h3, h4⟩
  · exact Or.inl h
  · refine Or.inr ⟨a, c, h1, (hk _ h2).1, h3, fun i hi => ?_⟩
    rw [← h4 i hi]
    unfold World.cell?
    rw [add_block, (hk _ h2).2]
theorem StrsC.at {S : Nat → Prop} {w : World} {a : Option Addr} {c : Nat} {l : List (List UInt8)} (h : StrsC S w (.slice a l.length c) l) (hl : 0 < l.length) : ∃ b, a = some b ∧ S b.block ∧ l.length ≤ c ∧ ∀ i, i < l.length → w.cell? (b.add i) = some (.string ⟨(l.getD i []).toArray⟩) := by
  rcases h with ⟨h0, _⟩ | ⟨b, c', h1, h2, h3, h4⟩
  · rw [h0] at hl; simp at hl
  · injection h1 with h1 _ h1c
    subst h1 h1c
    exact ⟨b, rfl, h2, h3, h4⟩
/-- The library's table of how long a text its search takes. -/
def PEnv (w : World) : Prop := ∃ m, w.cell? ⟨0, 0, none⟩ = some (.int .i64 m)
theorem PEnv.on {w w' : World} (h : PEnv w) (hb : Below w.heap.size w w') : PEnv w' := by
  obtain ⟨m, hm⟩ := h
  exact ⟨m, by rw [hb.cell (p := ⟨0, 0, none⟩) (World.block_lt_of_cell? _ _ hm)]; exact hm⟩
theorem countB_one (s : List UInt8) : countB ⟨s.toArray⟩ ⟨#[47]⟩ = s.count 47 := by
  show count s [47] = _
  exact count_one 47 s
theorem split_names (p : List UInt8) : (splitB ⟨#[47]⟩ 0 (countB ⟨p.toArray⟩ ⟨#[47]⟩) ⟨p.toArray⟩).map (·.data.toList) = splitL p := by
  rw [splitB_data, countB_one]
  exact splitK_eq p
theorem strs_of (w : World) (xs : List ByteArray) : StrsC (fun k => w.heap.size ≤ k ∧ k < w.heap.size + 1) (w.alloc (.cells (xs.map Value.string).toArray 9)) (.slice (some ⟨w.heap.size, 0, none⟩) xs.length xs.length) (xs.map (·.data.toList)) := by
  refine Or.inr ⟨⟨w.heap.size, 0, none⟩, xs.length, by rw [List.length_map], ⟨Nat.le_refl _, Nat.lt_succ_self _⟩, by rw [List.length_map]; exact Nat.le_refl _, fun i hi => ?_⟩
  rw [List.length_map] at hi
  rw [Addr.add_mid, cell_of_row _ _ _ _ _ _ (new_five w _ _)]
  simp [List.getD, List.getElem?_eq_getElem hi]
set_option maxHeartbeats 1000000 in
theorem split_any (p : List UInt8) (w : World) (hp : p.length ≤ 4194304) (hE : PEnv w) : Calls Tryd.prog 29 #[.string ⟨p.toArray⟩] w fun e w' => ∃ v, e = .returned v ∧ StrsC (fun k => w.heap.size ≤ k ∧ k < w'.heap.size) w' v (namesL p) ∧ Below w.heap.size w w' := by
  by_cases h0 : p = []
  · subst h0
    have HR := Lib.hid (Below.refl w.heap.size w)
    clear hE
    go_enter Tryd.func29, Tryd.ntmps29
    go_wp2_with fail
    go_ret
    exact ⟨_, rfl, Or.inl ⟨rfl, none, 0, rfl⟩, HR.out⟩
  · obtain ⟨m, hm⟩ := hE
    have hc := Tryd.strings_Split ⟨p.toArray⟩ ⟨#[47]⟩ m w (by rw [at_size]; omega) hm (by decide)
    have hl : countB ⟨p.toArray⟩ ⟨#[47]⟩ + 1 = (splitB ⟨#[47]⟩ 0 (countB ⟨p.toArray⟩ ⟨#[47]⟩) ⟨p.toArray⟩).length := by
      have := congrArg List.length (split_names p)
      rw [List.length_map, splitL_len] at this
      rw [this, countB_one]
    have hn := split_names p
    rw [hl] at hc
    have HNL : Hid (namesL p = splitL p) := Lib.hid (by unfold namesL; rw [if_neg h0])
    generalize splitB ⟨#[47]⟩ 0 (countB ⟨p.toArray⟩ ⟨#[47]⟩) ⟨p.toArray⟩ = xs at *
    have HS := Lib.hid (strs_of w xs)
    have HN := Lib.hid hn
    have HC := Lib.hid hc
    have g1 : p.isEmpty = false := by cases p; exact absurd rfl h0; rfl
    clear hl hn hm hc h0
    go_enter Tryd.func29, Tryd.ntmps29
    go_wp2_with fail
    refine HC.out.mono ?_
    rintro e w1 ⟨rfl, rfl⟩
    go_wp2_with fail
    go_ret
    refine ⟨_, rfl, ?_, (Below.refl _ _).alloc (Nat.le_refl _) _⟩
    have := HS.out
    rw [HN.out, ← HNL.out] at this
    refine this.kept (fun k hk => ⟨by simpa using hk, rfl⟩)
end Go.Proofs.YthigepjddfdbmaaDoor
