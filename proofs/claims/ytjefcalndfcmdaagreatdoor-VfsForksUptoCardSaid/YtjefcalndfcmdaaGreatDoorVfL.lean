/- All changes of names durable; a crash. -/
import Derived.Test.YtjefcalndfcmdaaGreatDoorVfK
import Derived.Test.YtjefcalndfcmdaaGreatDoorShelfM
import Derived.Maps.RangeWalk
namespace Go.Proofs.YtjefcalndfcmdaaGreatDoor
open Go.RowKit Go.Maps
theorem FsUp.far_of {B : Nat} {X X' : FsX} {w w' : World} {P : Nat → Prop} (h : Far P w w') (hP : ∀ k, P k → X.T k ≠ .no) (hd : ∀ k, X.T k ≠ .no → B ≤ k) (hB : B ≤ w.heap.size) (hT : X'.T = X.T) : FsUp B X w X' w' :=
  ⟨h.below (fun k hk => hd k (hP k hk)) hB, fun k hk ht => h.block k hk (fun e => hP k e ht), fun k hk => Or.inl (by rw [hT] at hk; exact hk)⟩
def flushS (s : Fs) : Fs × Int := if s.more = 0 then (s, 190) else (flushD (tick s) s.acts.length, 0)
theorem flushD_ok {s : Fs} (ok : FsOk s) : FsOk (flushD s s.acts.length) := by
  have h1 : doAll s.sure (s.acts.take s.acts.length) = s.now := by rw [List.take_length, ok.eq]
  refine ⟨?_, fun k hk => ?_, fun a ha => (by cases ha), ok.dat, ?_, ok.room, ok.lo, ok.hi⟩
  · show s.now = doAll (doAll s.sure (s.acts.take s.acts.length)) []
    rw [h1]; rfl
  · show DirOk s.files.length (doAll (doAll s.sure (s.acts.take s.acts.length)) (List.take k []))
    rw [h1, List.take_nil]; exact ok.nowOk
  · show (doAll s.sure (s.acts.take s.acts.length)).length + 0 ≤ s.steps
    rw [h1]; exact ok.nowLen
theorem flushS_ok {s : Fs} (ok : FsOk s) : FsOk (flushS s).1 := by
  unfold flushS
  by_cases h3 : s.more = 0
  · rw [if_pos h3]; exact ok
  · rw [if_neg h3]; exact flushD_ok ok.tick
theorem FsOk.lens {s : Fs} (ok : FsOk s) : ∀ a ∈ s.acts, a.gone.length ≤ 4194304 ∧ a.come.length ≤ 4194304 := fun a ha => by
  have := ok.acts a ha; omega
set_option maxHeartbeats 1000000 in
theorem flush_any {B : Nat} {X : FsX} {w : World} {bf : Nat} {s : Fs} (h : FsAt B X w bf s) (ok : FsOk s) (hs : s.steps ≤ 16777214) :
    Calls Tryz.prog 17 #[.pointer (some ⟨bf, 0, none⟩)] w (FsP B X w bf (.int .i64 (flushS s).2) (flushS s).1) := by
  have H := Lib.hid h
  have OK := Lib.hid ok
  obtain ⟨r, hr⟩ : ∃ r, flushS s = r := ⟨_, rfl⟩
  have HR := Lib.hid hr
  rw [hr]
  clear h ok hr
  by_cases hm : s.more = 0
  · have HM := Lib.hid hm
    clear hm
    go_enter Tryz.func17, Tryz.ntmps17
    go_wp2_with fail
    refine (step_cut H.out HM.out).mono ?_
    rintro e w1 ⟨rfl, rfl⟩
    go_wp2_with fail
    go_ret
    rw [← HR.out]
    unfold flushS
    rw [if_pos HM.out]
    exact ⟨rfl, X, H.out, FsUp.refl _ _ _⟩
  · have HM := Lib.hid hm
    clear hm
    go_enter Tryz.func17, Tryz.ntmps17
    go_wp2_with fail
    refine (step_ok H.out OK.out (by omega) HM.out).mono ?_
    rintro e w1 ⟨rfl, hh1, al1⟩
    have H1 := Lib.hid hh1
    have A1 := Lib.hid al1
    clear hh1 al1
    obtain ⟨_, _, _, _, c4, _, _⟩ := H1.out.cells
    obtain ⟨sa, sc, hva⟩ : ∃ sa sc, X.va = .slice sa s.acts.length sc := by
      rcases H.out.row.2 with ⟨e1, e2⟩ | ⟨g, cap, cur, e1, _⟩
      · exact ⟨none, 0, by rw [e1]; congr 1; exact e2.symm⟩
      · exact ⟨_, _, e1⟩
    rw [hva] at c4
    clear hva
    have HS := Lib.hid (settle_any (n := s.acts.length) H1.out (fun k hk => (OK.out.dirs k hk).rise) OK.out.lens (by show s.steps + 1 ≤ _; omega) (Nat.le_refl _))
    obtain ⟨al, hal⟩ : ∃ n, s.acts.length = n := ⟨_, rfl⟩
    have HAL := Lib.hid hal
    rw [hal] at c4 HS
    clear hal
    go_wp2_with fail
    refine HS.out.mono ?_
    rintro e w2 ⟨rfl, X', h2, f2, t2, _, _⟩
    have H2 := Lib.hid h2
    have F2 := Lib.hid f2
    have T2 := Lib.hid t2
    clear h2 f2 t2 c4 HS
    go_wp2_with fail
    go_ret
    rw [← HR.out]
    unfold flushS
    rw [if_neg HM.out, HAL.out]
    refine ⟨rfl, X', H2.out, (FsUp.alone H.out A1.out).trans (FsUp.far_of F2.out (fun k e => ?_) (fun k hk => (H1.out.dom k hk).1) H1.out.baseB T2.out)⟩
    rcases e with e | e
    · rw [e, H1.out.tf]; exact fun c => by cases c
    · rw [e, H1.out.td]; exact fun c => by cases c
end Go.Proofs.YtjefcalndfcmdaaGreatDoor
