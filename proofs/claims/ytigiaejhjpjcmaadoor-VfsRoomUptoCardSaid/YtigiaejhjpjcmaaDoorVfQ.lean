/- A file written anew beside the old one and renamed over it: the states that it goes through. -/
import Derived.Test.YtigiaejhjpjcmaaDoorVfP
namespace Go.Proofs.YtigiaejhjpjcmaaDoor
def dn (m : Int) : Int := if 0 < m then m - 1 else m
def RA (a : List UInt8) (m : Int) : Fs := ⟨[⟨a, a.length⟩], [([102], 0)], [([102], 0)], [], 1000, 4, m⟩
def RB (a : List UInt8) (m : Int) : Fs := ⟨[⟨a, a.length⟩, ⟨[], 0⟩], [([102], 0), ([103], 1)], [([102], 0)], [⟨[], [103], some 1⟩], 1000, 5, m⟩
def RC (a b : List UInt8) (m : Int) : Fs := ⟨[⟨a, a.length⟩, ⟨b, 0⟩], [([102], 0), ([103], 1)], [([102], 0)], [⟨[], [103], some 1⟩], 1000, 6, m⟩
def RD (a b : List UInt8) (m : Int) : Fs := ⟨[⟨a, a.length⟩, ⟨b, b.length⟩], [([102], 0), ([103], 1)], [([102], 0)], [⟨[], [103], some 1⟩], 1000, 7, m⟩
def RE (a b : List UInt8) (m : Int) : Fs := ⟨[⟨a, a.length⟩, ⟨b, b.length⟩], [([102], 1)], [([102], 0)], [⟨[], [103], some 1⟩, ⟨[103], [102], some 1⟩], 1000, 8, m⟩
def RG (a b : List UInt8) (m : Int) : Fs := ⟨[⟨a, a.length⟩, ⟨b, b.length⟩], [([102], 1)], [([102], 1)], [], 1000, 9, m⟩
theorem chk_f : checkN [102] = 0 := by decide +kernel
theorem chk_g : checkN [103] = 0 := by decide +kernel
def R1 : Fs := ⟨[⟨[], 0⟩], [([102], 0)], [], [⟨[], [102], some 0⟩], 1000, 1, -1⟩
def R2 (a : List UInt8) : Fs := ⟨[⟨a, 0⟩], [([102], 0)], [], [⟨[], [102], some 0⟩], 1000, 2, -1⟩
def R3 (a : List UInt8) : Fs := ⟨[⟨a, a.length⟩], [([102], 0)], [], [⟨[], [102], some 0⟩], 1000, 3, -1⟩
theorem r1 : createS (newS 1000) [102] = (R1, 0) := by
  unfold createS
  rw [if_neg (by rw [chk_f]; exact fun c => c rfl), if_neg (by exact fun c => c rfl), if_neg (by show ¬ (-1 : Int) = 0; omega)]
  rfl
theorem r2 (a : List UInt8) (h : a.length ≤ 1000) : appendS R1 [102] a = (R2 a, 0) := by
  have e : fnd R1.now [102] = some 0 := rfl
  unfold appendS
  rw [e]
  show (if (1000 : Int) - ((0 : Nat) : Int) < (a.length : Int) then (R1, (3 : Int)) else if (-1 : Int) = 0 then (R1, 190) else (putF (tick R1) 0 ⟨[] ++ a, 0⟩, 0)) = _
  rw [if_neg (by omega), if_neg (by omega)]
  rfl
theorem r3 (a : List UInt8) : syncS (R2 a) [102] = (R3 a, 0) := by
  have e : fnd (R2 a).now [102] = some 0 := rfl
  unfold syncS
  rw [e]
  show (if (-1 : Int) = 0 then (R2 a, (190 : Int)) else (putF (tick (R2 a)) 0 ⟨a, a.length⟩, 0)) = _
  rw [if_neg (by omega)]
  rfl
theorem r4 (a : List UInt8) : flushS (R3 a) = (RA a (-1), 0) := by
  unfold flushS
  rw [if_neg (by show ¬ (-1 : Int) = 0; omega)]
  rfl
theorem ra (a : List UInt8) (m : Int) : createS (RA a m) [103] = if m = 0 then (RA a m, 190) else (RB a (dn m), 0) := by
  unfold createS
  rw [if_neg (by rw [chk_g]; exact fun c => c rfl), if_neg (by exact fun c => c rfl)]
  rfl
theorem rb (a b : List UInt8) (m : Int) (h : a.length + b.length ≤ 1000) : appendS (RB a m) [103] b = if m = 0 then (RB a m, 190) else (RC a b (dn m), 0) := by
  have e : fnd (RB a m).now [103] = some 1 := rfl
  have hu : used (RB a m) = a.length := by show a.length + (0 + 0) = _; omega
  unfold appendS
  rw [e, hu]
  show (if (1000 : Int) - (a.length : Int) < (b.length : Int) then (RB a m, (3 : Int)) else if m = 0 then (RB a m, 190) else (putF (tick (RB a m)) 1 ⟨[] ++ b, 0⟩, 0)) = _
  rw [if_neg (by omega)]
  rfl
theorem rc (a b : List UInt8) (m : Int) : syncS (RC a b m) [103] = if m = 0 then (RC a b m, 190) else (RD a b (dn m), 0) := by
  have e : fnd (RC a b m).now [103] = some 1 := rfl
  unfold syncS
  rw [e]
  rfl
theorem rd (a b : List UInt8) (m : Int) : renameS (RD a b m) [103] [102] = if m = 0 then (RD a b m, 190) else (RE a b (dn m), 0) := by
  have e : fnd (RD a b m).now [103] = some 1 := rfl
  unfold renameS
  rw [e]
  show (if checkN [102] ≠ 0 then (RD a b m, checkN [102]) else if ([103] : Nm) = [102] then (RD a b m, 5) else if m = 0 then (RD a b m, 190) else (chg (tick (RD a b m)) ⟨[103], [102], some 1⟩, 0)) = _
  rw [if_neg (by rw [chk_f]; exact fun c => c rfl), if_neg (by decide)]
  rfl
theorem re (a b : List UInt8) (m : Int) : flushS (RE a b m) = if m = 0 then (RE a b m, 190) else (RG a b (dn m), 0) := by
  unfold flushS
  rfl
theorem take_all (a : List UInt8) (c : Int) : (cutF c ⟨a, a.length⟩).data = a := by
  unfold cutF
  show a.take (a.length + clampI c (a.length - a.length)) = a
  rw [Nat.sub_self]
  have : clampI c 0 = 0 := by unfold clampI; omega
  rw [this]; simp
theorem clamp1 (c : Int) : clampI c 1 = 0 ∨ clampI c 1 = 1 := by unfold clampI; omega
theorem clamp2 (c : Int) : clampI c 2 = 0 ∨ clampI c 2 = 1 ∨ clampI c 2 = 2 := by unfold clampI; omega
theorem eb1 {fs : List Fi} {d : Dir} {x : Nm} {i : Nat} {r s : Nat} {m : Int} {a : List UInt8} (h : fnd d x = some i) (hi : fs.getD i noFi = ⟨a, a.length⟩) (hl : i < fs.length) (cb : Int) : readS ⟨fs.map (cutF cb), d, d, [], r, s, m⟩ x = (a, 0) := by
  unfold readS
  rw [h]
  have e : (fs.map (cutF cb)).getD i noFi = cutF cb ⟨a, a.length⟩ := by
    rw [← hi]; simp [List.getD, hl]
  show (((fs.map (cutF cb)).getD i noFi).data, (0 : Int)) = _
  rw [e, take_all]
theorem ea (a : List UInt8) (m ca cb : Int) : readS (crashS (RA a m) ca cb) [102] = (a, 0) := by
  unfold crashS RA
  simp only [List.take_nil]
  exact eb1 (fs := [⟨a, a.length⟩]) (i := 0) rfl rfl (by simp) cb
theorem eb {fs : List Fi} {now : Dir} {a : List UInt8} (hi : fs.getD 0 noFi = ⟨a, a.length⟩) (hl : 0 < fs.length) (r s : Nat) (m ca cb : Int) : readS (crashS ⟨fs, now, [([102], 0)], [⟨[], [103], some 1⟩], r, s, m⟩ ca cb) [102] = (a, 0) := by
  unfold crashS
  rcases clamp1 ca with e | e
  · have e2 : clampI ca ([⟨[], [103], some 1⟩] : List Ac).length = 0 := e
    simp only [e2]
    exact eb1 (i := 0) rfl hi hl cb
  · have e2 : clampI ca ([⟨[], [103], some 1⟩] : List Ac).length = 1 := e
    simp only [e2]
    exact eb1 (i := 0) rfl hi hl cb
theorem ee (a b : List UInt8) (m ca cb : Int) : readS (crashS (RE a b m) ca cb) [102] = (a, 0) ∨ readS (crashS (RE a b m) ca cb) [102] = (b, 0) := by
  unfold crashS RE
  rcases clamp2 ca with e | e | e
  · left
    have e2 : clampI ca ([⟨[], [103], some 1⟩, ⟨[103], [102], some 1⟩] : List Ac).length = 0 := e
    simp only [e2]
    exact eb1 (fs := [⟨a, a.length⟩, ⟨b, b.length⟩]) (i := 0) rfl rfl (by simp) cb
  · left
    have e2 : clampI ca ([⟨[], [103], some 1⟩, ⟨[103], [102], some 1⟩] : List Ac).length = 1 := e
    simp only [e2]
    exact eb1 (fs := [⟨a, a.length⟩, ⟨b, b.length⟩]) (i := 0) rfl rfl (by simp) cb
  · right
    have e2 : clampI ca ([⟨[], [103], some 1⟩, ⟨[103], [102], some 1⟩] : List Ac).length = 2 := e
    simp only [e2]
    exact eb1 (fs := [⟨a, a.length⟩, ⟨b, b.length⟩]) (i := 1) rfl rfl (by simp) cb
theorem eg (a b : List UInt8) (m ca cb : Int) : readS (crashS (RG a b m) ca cb) [102] = (b, 0) := by
  unfold crashS RG
  simp only [List.take_nil]
  exact eb1 (fs := [⟨a, a.length⟩, ⟨b, b.length⟩]) (i := 1) rfl rfl (by simp) cb
end Go.Proofs.YtigiaejhjpjcmaaDoor
