/- The law GlobMatches. -/
import Derived.Test.YthigepjddfdbmaaDoorGlobZh
namespace Go.Proofs.YthigepjddfdbmaaDoor
open Go.RowKit Go.Lib
theorem parse_no {s : Txt} {c : Int} (h : parseN s = .error c) : c = 2 ∨ c = 60 := by
  unfold parseN at h
  split at h
  · injection h with h; exact Or.inl h.symm
  · split at h
    · injection h with h; exact Or.inr h.symm
    · cases h
theorem rmatch_b (pat s : Txt) (w : World) (hp : pat.length ≤ 4000000) (hm : s.length ≤ 3999990) {ps : List PieceN} (hok : parseN pat = .ok ps) {b : Bool} (hb : matchB ps (namesL s) = b) :
    Calls Tryd.prog 13 #[.string ⟨pat.toArray⟩, .string ⟨s.toArray⟩] w fun e w' => e = .returned (.bool b) ∧ Below w.heap.size w w' :=
  (rmatch_any pat s w hp hm hok).mono fun e w' hT => by
    have hi := matchB_iff ps (namesL s)
    cases b with
    | true => exact hT.yes (hi.1 hb)
    | false => exact hT.no (fun hm => by rw [hi.2 hm] at hb; cases hb)
set_option maxRecDepth 100000 in
set_option maxHeartbeats 8000000 in
theorem matches_law (pat s : Txt) (w : World) (hE : PEnv w) (hp : pat.length ≤ 1048576) (hs : s.length ≤ 1048576) :
    Calls Tryd.prog 3 #[.string ⟨pat.toArray⟩, .string ⟨s.toArray⟩] w fun e w' => e = .returned (.bool true) ∧ Below w.heap.size w w' := by
  have HE := Lib.hid hE
  have HAW := Lib.hid (awake_any w hE)
  clear hE
  obtain ⟨u, hu⟩ : ∃ u, (if 2000 < s.length then s.take 2000 else s) = u := ⟨_, rfl⟩
  have hul : u.length ≤ 2000 := by
    rw [← hu]
    split
    · rw [List.length_take]; omega
    · omega
  have HU := Lib.hid hu
  clear hu
  go_enter Tryd.func3, Tryd.ntmps3
  go_wp2_with fail
  refine HAW.out.mono ?_
  rintro e w1 ⟨rfl, hb1⟩
  have HB1 := Lib.hid hb1
  clear hb1 HAW
  go_upto_if 12 with fail
  go_cut [1] (fun s1 wx => s1 = .string ⟨u.toArray⟩ ∧ wx = w1)
  case first =>
    by_cases hl : 2000 < s.length
    · have hct : ∀ W, (Instr.slice 9 (.string ⟨s.toArray⟩) none (some (.int .i64 2000)) none).run Tryd.prog W = .ok (.string ⟨(s.take 2000).toArray⟩) W := fun W => str_take W s 2000 (by omega)
      have HU2 : Hid (u = s.take 2000) := Lib.hid (by rw [← HU.out, if_pos hl])
      generalize s.take 2000 = z at *
      go_wp2_with fail
      go_meet
      exact ⟨by rw [HU2.out], rfl⟩
    · have HU2 : Hid (u = s) := Lib.hid (by rw [← HU.out, if_neg hl])
      go_wp2_with fail
      go_meet
      exact ⟨by rw [HU2.out], rfl⟩
  case rest =>
    obtain ⟨rfl, rfl⟩ := hcut
    have HP := Lib.hid (parse_any pat wc (by omega) (HE.out.on HB1.out))
    clear HU hs
    go_wp2_with fail
    refine HP.out.mono ?_
    intro e w2 h2
    cases hpn : parseN pat with
    | error c =>
      rw [hpn] at h2
      obtain ⟨rfl, hb2⟩ := h2
      have HB2 : Hid (Below w.heap.size w w2) := Lib.hid (HB1.out.trans (hb2.mono HB1.out.size))
      have hcd : codeN pat = c := by unfold codeN; rw [hpn]
      have hrc := rcheck_any pat w2 (by omega)
      rw [hcd] at hrc
      have HRC := Lib.hid hrc
      have hc := parse_no hpn
      clear hpn hcd hrc hb2 HP
      go_wp2_with fail
      refine HRC.out.mono ?_
      rintro e w3 ⟨rfl, hb3⟩
      have HB3 : Hid (Below w.heap.size w w3) := Lib.hid (HB2.out.trans (hb3.mono HB2.out.size))
      clear hb3 HRC
      rcases hc with rfl | rfl
      · go_wp2_with fail
        go_ret
        exact ⟨rfl, HB3.out⟩
      · go_wp2_with fail
        go_ret
        exact ⟨rfl, HB3.out⟩
    | ok ps =>
      rw [hpn] at h2
      obtain ⟨pb, rfl, hpt, hb2⟩ := h2
      have HB2 : Hid (Below w.heap.size w w2) := Lib.hid (HB1.out.trans (hb2.mono HB1.out.size))
      have HM := Lib.hid (match_from hpt (HE.out.on HB2.out))
      have hcd : codeN pat = 0 := by unfold codeN; rw [hpn]
      have hrc := rcheck_any pat w2 (by omega)
      rw [hcd] at hrc
      have HRC := Lib.hid hrc
      obtain ⟨b, hb⟩ : ∃ b, matchB ps (namesL u) = b := ⟨_, rfl⟩
      have HRM := Lib.hid (fun W => rmatch_b pat u W (by omega) (by omega) hpn hb)
      have HMB := Lib.hid hb
      clear hpn hcd hrc hb2 HP hpt hb
      go_wp2_with fail
      refine HRC.out.mono ?_
      rintro e w3 ⟨rfl, hb3⟩
      have HB3 : Hid (Below w.heap.size w w3) := Lib.hid (HB2.out.trans (hb3.mono HB2.out.size))
      have HM3 := Lib.hid (HM.out w3 hb3 u b (by omega) HMB.out)
      clear hb3 HRC
      go_wp2_with fail
      refine HM3.out.mono ?_
      rintro e w4 ⟨rfl, hb4⟩
      have HB4 : Hid (Below w.heap.size w w4) := Lib.hid (HB3.out.trans (hb4.mono HB3.out.size))
      clear hb4 HM3
      go_wp2_with fail
      refine (HRM.out w4).mono ?_
      rintro e w5 ⟨rfl, hb5⟩
      have HB5 : Hid (Below w.heap.size w w5) := Lib.hid (HB4.out.trans (hb5.mono HB4.out.size))
      clear hb5 HRM
      go_wp2_with fail
      go_ret
      exact ⟨by simp, HB5.out⟩
end Go.Proofs.YthigepjddfdbmaaDoor
