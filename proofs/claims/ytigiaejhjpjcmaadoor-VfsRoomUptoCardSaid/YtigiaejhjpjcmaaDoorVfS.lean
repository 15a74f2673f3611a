/- Room: what the law's loop holds (mathematics). -/
import Derived.Test.YtigiaejhjpjcmaaDoorVfR
namespace Go.Proofs.YtigiaejhjpjcmaaDoor
open Go.RowKit Go.Maps
def nm4 (k : Nat) : Nm := [(97 + k).toUInt8]
def N4 : Dir := [([97], 0), ([98], 1), ([99], 2), ([100], 3)]
def crQ (room : Nat) : Nat → Fs
  | 0 => newS room
  | 1 => ⟨[noFi], [([97], 0)], [], [⟨[], [97], some 0⟩], room, 1, -1⟩
  | 2 => ⟨[noFi, noFi], [([97], 0), ([98], 1)], [], [⟨[], [97], some 0⟩, ⟨[], [98], some 1⟩], room, 2, -1⟩
  | 3 => ⟨[noFi, noFi, noFi], [([97], 0), ([98], 1), ([99], 2)], [], [⟨[], [97], some 0⟩, ⟨[], [98], some 1⟩, ⟨[], [99], some 2⟩], room, 3, -1⟩
  | _ => ⟨[noFi, noFi, noFi, noFi], N4, [], [⟨[], [97], some 0⟩, ⟨[], [98], some 1⟩, ⟨[], [99], some 2⟩, ⟨[], [100], some 3⟩], room, 4, -1⟩
theorem chk4 : checkN [97] = 0 ∧ checkN [98] = 0 ∧ checkN [99] = 0 ∧ checkN [100] = 0 := by decide +kernel
theorem cr_step (room k : Nat) (hk : k < 4) : createS (crQ room k) (nm4 k) = (crQ room (k + 1), 0) := by
  have h4 : k = 0 ∨ k = 1 ∨ k = 2 ∨ k = 3 := by omega
  rcases h4 with rfl | rfl | rfl | rfl
  · show createS (crQ room 0) [97] = _
    unfold createS
    rw [if_neg (by rw [chk4.1]; exact fun c => c rfl), if_neg (by exact fun c => c rfl), if_neg (by show ¬ (-1 : Int) = 0; omega)]
    rfl
  · show createS (crQ room 1) [98] = _
    unfold createS
    rw [if_neg (by rw [chk4.2.1]; exact fun c => c rfl), if_neg (by exact fun c => c rfl), if_neg (by show ¬ (-1 : Int) = 0; omega)]
    rfl
  · show createS (crQ room 2) [99] = _
    unfold createS
    rw [if_neg (by rw [chk4.2.2.1]; exact fun c => c rfl), if_neg (by exact fun c => c rfl), if_neg (by show ¬ (-1 : Int) = 0; omega)]
    rfl
  · show createS (crQ room 3) [100] = _
    unfold createS
    rw [if_neg (by rw [chk4.2.2.2]; exact fun c => c rfl), if_neg (by exact fun c => c rfl), if_neg (by show ¬ (-1 : Int) = 0; omega)]
    rfl
theorem cr_steps (room k : Nat) (hk : k ≤ 4) : (crQ room k).steps ≤ 4 := by
  have h4 : k = 0 ∨ k = 1 ∨ k = 2 ∨ k = 3 ∨ k = 4 := by omega
  rcases h4 with rfl | rfl | rfl | rfl | rfl <;> (unfold crQ; first | exact Nat.zero_le _ | (simp))
theorem nm4_len (k : Nat) : (nm4 k).length ≤ 4194304 := by unfold nm4; simp
structure RoomI (room : Nat) (h : Nat → Nat) (s : Fs) : Prop where
  now : s.now = N4
  len : s.files.length = 4
  dat : ∀ k, k < 4 → (s.files.getD k noFi).data.length = h k
  more : s.more = -1
  rm : s.room = room
theorem RoomI.start (room : Nat) : RoomI room (fun _ => 0) (crQ room 4) := by
  refine ⟨rfl, rfl, fun k hk => ?_, rfl, rfl⟩
  have h4 : k = 0 ∨ k = 1 ∨ k = 2 ∨ k = 3 := by omega
  rcases h4 with rfl | rfl | rfl | rfl <;> rfl
theorem RoomI.fnd {room : Nat} {h : Nat → Nat} {s : Fs} (hI : RoomI room h s) {k : Nat} (hk : k < 4) : fnd s.now (nm4 k) = some k := by
  rw [hI.now]
  have h4 : k = 0 ∨ k = 1 ∨ k = 2 ∨ k = 3 := by omega
  rcases h4 with rfl | rfl | rfl | rfl <;> rfl
theorem RoomI.used {room : Nat} {h : Nat → Nat} {s : Fs} (hI : RoomI room h s) : used s = h 0 + h 1 + h 2 + h 3 := by
  unfold Go.Proofs.YtigiaejhjpjcmaaDoor.used
  rw [hI.now]
  show (s.files.getD 0 noFi).data.length + ((s.files.getD 1 noFi).data.length + ((s.files.getD 2 noFi).data.length + ((s.files.getD 3 noFi).data.length + 0))) = _
  rw [hI.dat 0 (by omega), hI.dat 1 (by omega), hI.dat 2 (by omega), hI.dat 3 (by omega)]
  omega
theorem RoomI.put {room : Nat} {h : Nat → Nat} {s : Fs} (hI : RoomI room h s) {k : Nat} (hk : k < 4) (f : Fi) : RoomI room (fun j => if j = k then f.data.length else h j) (putF (tick s) k f) := by
  refine ⟨hI.now, ?_, fun j hj => ?_, ?_, hI.rm⟩
  · show (s.files.set k f).length = 4; rw [List.length_set]; exact hI.len
  · show ((s.files.set k f).getD j noFi).data.length = _
    rw [getD_set (by rw [hI.len]; exact hk)]
    by_cases e : j = k
    · rw [if_pos e, if_pos e]
    · rw [if_neg e, if_neg e]; exact hI.dat j hj
  · show (if 0 < s.more then s.more - 1 else s.more) = -1
    rw [hI.more]; rfl
theorem RoomI.cut {room : Nat} {h : Nat → Nat} {s : Fs} (hI : RoomI room h s) {k : Nat} (hk : k < 4) : ∃ s', cutS s (nm4 k) ((h k / 2 : Nat) : Int) = (s', 0) ∧ RoomI room (fun j => if j = k then h k / 2 else h j) s' ∧ s'.steps = s.steps + 1 := by
  have hd := hI.dat k hk
  refine ⟨putF (tick s) k ⟨(s.files.getD k noFi).data.take (((h k / 2 : Nat) : Int)).toNat, (((h k / 2 : Nat) : Int)).toNat⟩, ?_, ?_, rfl⟩
  · unfold cutS
    rw [hI.fnd hk]
    show (if ((h k / 2 : Nat) : Int) < 0 ∨ ((s.files.getD k noFi).data.length : Int) < ((h k / 2 : Nat) : Int) then (s, (1 : Int)) else if s.more = 0 then (s, 190) else _) = _
    rw [if_neg (by rw [hd]; omega), if_neg (by rw [hI.more]; omega)]
  · have h1 := hI.put hk ⟨(s.files.getD k noFi).data.take (((h k / 2 : Nat) : Int)).toNat, (((h k / 2 : Nat) : Int)).toNat⟩
    have h2 : ((s.files.getD k noFi).data.take (((h k / 2 : Nat) : Int)).toNat).length = h k / 2 := by rw [List.length_take, hd]; omega
    rw [h2] at h1
    exact h1
theorem RoomI.app_ok {room : Nat} {h : Nat → Nat} {s : Fs} (hI : RoomI room h s) {k : Nat} (hk : k < 4) (l : List UInt8) (hr : h 0 + h 1 + h 2 + h 3 + l.length ≤ room) : ∃ s', appendS s (nm4 k) l = (s', 0) ∧ RoomI room (fun j => if j = k then h k + l.length else h j) s' ∧ s'.steps = s.steps + 1 := by
  have hd := hI.dat k hk
  refine ⟨putF (tick s) k ⟨(s.files.getD k noFi).data ++ l, (s.files.getD k noFi).dur⟩, ?_, ?_, rfl⟩
  · unfold appendS
    rw [hI.fnd hk]
    show (if (s.room : Int) - (Go.Proofs.YtigiaejhjpjcmaaDoor.used s : Int) < (l.length : Int) then (s, (3 : Int)) else if s.more = 0 then (s, 190) else _) = _
    rw [if_neg (by rw [hI.rm, hI.used]; omega), if_neg (by rw [hI.more]; omega)]
  · have h1 := hI.put hk ⟨(s.files.getD k noFi).data ++ l, (s.files.getD k noFi).dur⟩
    have h2 : ((s.files.getD k noFi).data ++ l).length = h k + l.length := by rw [List.length_append, hd]
    rw [h2] at h1
    exact h1
theorem RoomI.app_no {room : Nat} {h : Nat → Nat} {s : Fs} (hI : RoomI room h s) {k : Nat} (hk : k < 4) (l : List UInt8) (hr : ¬ h 0 + h 1 + h 2 + h 3 + l.length ≤ room) : appendS s (nm4 k) l = (s, 3) := by
  unfold appendS
  rw [hI.fnd hk]
  show (if (s.room : Int) - (Go.Proofs.YtigiaejhjpjcmaaDoor.used s : Int) < (l.length : Int) then (s, (3 : Int)) else if s.more = 0 then (s, 190) else _) = _
  rw [if_pos (by rw [hI.rm, hI.used]; omega)]
theorem RoomI.rem {room : Nat} {h : Nat → Nat} {s : Fs} (hI : RoomI room h s) : (removeS s [97]).2 = 0 ∧ Go.Proofs.YtigiaejhjpjcmaaDoor.used (removeS s [97]).1 = h 1 + h 2 + h 3 := by
  have e : removeS s [97] = (chg (tick s) ⟨[97], [], none⟩, 0) := by
    unfold removeS
    rw [show Go.Proofs.YtigiaejhjpjcmaaDoor.fnd s.now [97] = some 0 from hI.fnd (k := 0) (by omega)]
    show (if s.more = 0 then (s, (190 : Int)) else _) = _
    rw [if_neg (by rw [hI.more]; omega)]
  rw [e]
  refine ⟨rfl, ?_⟩
  show usedD s.files (wout s.now [97]) = _
  rw [hI.now]
  show (s.files.getD 1 noFi).data.length + ((s.files.getD 2 noFi).data.length + ((s.files.getD 3 noFi).data.length + 0)) = _
  rw [hI.dat 1 (by omega), hI.dat 2 (by omega), hI.dat 3 (by omega)]
  omega
end Go.Proofs.YtigiaejhjpjcmaaDoor
