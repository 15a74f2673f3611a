/- A file system in memory: its numbers asked, a step done. -/
import Derived.Test.YtjefcalndfcmdaaGreatDoorVfB
import Derived.Test.YtjefcalndfcmdaaGreatDoorStep
import Derived.Test.YtjefcalndfcmdaaGreatDoorDraw
import Derived.IntWalk
import Derived.Deep.QuietTactic
import Derived.BigQuiet
import Derived.StillTailTactics
namespace Go.Proofs.YtjefcalndfcmdaaGreatDoor
open Go.RowKit Go.Maps
def tick (s : Fs) : Fs := { s with steps := s.steps + 1, more := if 0 < s.more then s.more - 1 else s.more }
theorem stV_tick (s : Fs) : stV (tick s) = stV s + 1 := by
  unfold stV
  show ((s.steps + 1 : Nat) : Int) - ((s.lead % 16777216 : Nat) : Int) = _
  omega
theorem FsAt.used_le {B : Nat} {X : FsX} {w : World} {bf : Nat} {s : Fs} (_ : FsAt B X w bf s) (ok : FsOk s) (hs : s.steps ≤ 16777216) : used s ≤ 70368744177664 := by
  have h1 := usedD_le (fun f hf => (ok.dat f hf).2) s.now
  have h2 := ok.nowLen
  unfold used
  have h3 : s.now.length * 4194304 ≤ 16777216 * 4194304 := Nat.mul_le_mul_right _ (Nat.le_trans h2 hs)
  omega
theorem tick_used (s : Fs) : used (tick s) = used s := rfl
/-- No power: a step is refused. -/
theorem step_cut {B : Nat} {X : FsX} {w : World} {bf : Nat} {s : Fs} (h : FsAt B X w bf s) (hm : s.more = 0) :
    Calls Tryz.prog 42 #[.pointer (some ⟨bf, 0, none⟩)] w fun e w' => e = .returned (.int .i64 190) ∧ w = w' := by
  obtain ⟨_, _, _, _, _, _, c6⟩ := h.cells
  rw [hm] at c6
  clear h hm
  go_enter Tryz.func42, Tryz.ntmps42
  go_wp2_with fail
  go_ret
  exact ⟨rfl, rfl⟩
set_option maxHeartbeats 1000000 in
theorem step_ok {B : Nat} {X : FsX} {w : World} {bf : Nat} {s : Fs} (h : FsAt B X w bf s) (ok : FsOk s) (hs : s.steps ≤ 16777216) (hm : s.more ≠ 0) :
    Calls Tryz.prog 42 #[.pointer (some ⟨bf, 0, none⟩)] w fun e w' => e = .returned (.int .i64 0) ∧ FsAt B X w' bf (tick s) ∧ Alone bf w w' := by
  obtain ⟨_, _, _, _, _, c5, c6⟩ := h.cells
  have f5 := h.free 5
  have f6 := h.free 6
  have HH := Lib.hid h
  have l1 := ok.lo
  have l2 := ok.hi
  obtain ⟨m, hme⟩ : ∃ m, s.more = m := ⟨_, rfl⟩
  have HM := Lib.hid hme
  rw [hme] at c6 hm l1 l2
  clear hme h ok
  have g0 : (m == 0) = false := beq_eq_false_iff_ne.2 hm
  have hws : IntKind.i64.wrap (stV s + 1) = stV s + 1 := IntWalk.i64_in _ (by have := stV_bd hs; omega)
  have hst := stV_tick s
  by_cases hp : 0 < m
  · have g1 : decide (m > 0) = true := decide_eq_true hp
    go_enter Tryz.func42, Tryz.ntmps42
    go_wp2_with fail
    go_ret
    refine ⟨rfl, ?_, ?_⟩
    · refine HH.out.reRow (fun k hk => ?_) (by simp) ?_ rfl rfl rfl rfl (Nat.le_succ _)
      · rw [Below.heap_setCell _ _ _ k hk, Below.heap_setCell _ _ _ k hk]
      · rw [cells_set (cells_set HH.out.blk _) _]
        unfold fsRow
        rw [hst]
        unfold tick
        rw [HM.out, if_pos hp]
        rfl
    · exact (Alone.set bf 6 w _).trans (Alone.set bf 5 _ _)
  · have g1 : decide (m > 0) = false := decide_eq_false hp
    go_enter Tryz.func42, Tryz.ntmps42
    go_wp2_with fail
    go_ret
    refine ⟨rfl, ?_, ?_⟩
    · refine HH.out.reRow (fun k hk => ?_) (by simp) ?_ rfl rfl rfl rfl (Nat.le_succ _)
      · rw [Below.heap_setCell _ _ _ k hk]
      · rw [cells_set HH.out.blk _]
        unfold fsRow
        rw [hst]
        unfold tick
        rw [HM.out, if_neg (by omega)]
        rfl
    · exact Alone.set bf 5 w _
theorem steps_any {B : Nat} {X : FsX} {w : World} {bf : Nat} {s : Fs} (h : FsAt B X w bf s) :
    Calls Tryz.prog 13 #[.pointer (some ⟨bf, 0, none⟩)] w fun e w' => e = .returned (.int .i64 (stV s)) ∧ w = w' := by
  obtain ⟨_, _, _, _, _, c5, _⟩ := h.cells
  clear h
  go_enter Tryz.func13, Tryz.ntmps13
  go_wp2_with fail
  go_ret
  exact ⟨rfl, rfl⟩
theorem used_any {B : Nat} {X : FsX} {w : World} {bf : Nat} {s : Fs} (h : FsAt B X w bf s) :
    Calls Tryz.prog 35 #[.pointer (some ⟨bf, 0, none⟩)] w fun e w' => e = .returned (.int .i64 (used s : Int)) ∧ w = w' := by
  obtain ⟨_, c1, _⟩ := h.cells
  clear h
  go_enter Tryz.func35, Tryz.ntmps35
  go_wp2_with fail
  go_ret
  exact ⟨rfl, rfl⟩
theorem left_any {B : Nat} {X : FsX} {w : World} {bf : Nat} {s : Fs} (h : FsAt B X w bf s) (ok : FsOk s) (hs : s.steps ≤ 16777216) :
    Calls Tryz.prog 23 #[.pointer (some ⟨bf, 0, none⟩)] w fun e w' => ∃ n, e = .returned (.int .i64 ((s.room : Int) - (used s : Int))) ∧ w' = w.drewN n := by
  obtain ⟨c0, c1, _⟩ := h.cells
  have hu := h.used_le ok hs
  have hr := ok.room
  generalize used s = u at *
  generalize s.room = r at *
  clear h ok
  go_enter Tryz.func23, Tryz.ntmps23
  go_wp2_with fail
  have hw : IntKind.i64.wrap ((r : Int) - (u : Int)) = (r : Int) - (u : Int) := IntWalk.i64_in _ (by omega)
  go_quiet (fail)
  clear hw
  go_wp2_with fail
  go_ret
  exact ⟨_, rfl, rfl⟩
theorem stop_any {B : Nat} {X : FsX} {w : World} {bf : Nat} {s : Fs} (h : FsAt B X w bf s) (n : Int) :
    Calls Tryz.prog 16 #[.pointer (some ⟨bf, 0, none⟩), .int .i64 n] w fun e w' => e = .returned (.tuple #[]) ∧ FsAt B X w' bf { s with more := n } ∧ Alone bf w w' := by
  obtain ⟨_, _, _, _, _, _, c6⟩ := h.cells
  have f6 := h.free 6
  have HH := Lib.hid h
  clear h
  go_enter Tryz.func16, Tryz.ntmps16
  go_wp2_with fail
  go_end0
  refine ⟨rfl, ?_, Alone.set bf 6 w _⟩
  refine HH.out.reRow (fun k hk => Below.heap_setCell _ _ _ k hk) (by simp) ?_ rfl rfl rfl rfl (Nat.le_refl _)
  rw [cells_set HH.out.blk _]
  rfl
/-- A number, or the bound beyond which it lies. -/
def clampI (n : Int) (m : Nat) : Nat := min n.toNat m
theorem within_any (n : Int) (m : Nat) (w : World) : Calls Tryz.prog 40 #[.int .i64 n, .int .i64 (m : Int)] w fun e w' => e = .returned (.int .i64 (clampI n m : Int)) ∧ w = w' := by
  go_enter Tryz.func40, Tryz.ntmps40
  go_wp2_with fail
  go_ret
  refine ⟨?_, rfl⟩
  show Ending.returned (.int .i64 (min (max n 0) (m : Int))) = _
  rw [show min (max n 0) (m : Int) = ((clampI n m : Nat) : Int) from by unfold clampI; omega]
end Go.Proofs.YtjefcalndfcmdaaGreatDoor
