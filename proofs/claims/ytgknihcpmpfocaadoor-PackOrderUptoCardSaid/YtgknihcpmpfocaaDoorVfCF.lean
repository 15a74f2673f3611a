/- A file system in memory: its numbers asked, a step done. Names in memory: how many bytes the file of a name has; a change of names done. A change of names, done and kept in mind. What calls make of a file system keeps it sound; a file made new; a file's bytes made others. -/
import Derived.Test.YtgknihcpmpfocaaDoorVfB
import Derived.Test.YtgknihcpmpfocaaDoorStep
import Derived.Test.YtgknihcpmpfocaaDoorDraw
import Derived.IntWalk
import Derived.Deep.QuietTactic
import Derived.BigQuiet
import Derived.StillTailTactics
import Derived.Maps.OwnSet
import Derived.Deep.DrawnRows
import Derived.Test.YtgknihcpmpfocaaDoorPathAll
namespace Go.Proofs.YtgknihcpmpfocaaDoor
open Go.RowKit Go.Maps
def tick (s : Fs) : Fs := { s with steps := s.steps + 1, more := if 0 < s.more then s.more - 1 else s.more }
theorem stV_tick (s : Fs) : stV (tick s) = stV s + 1 := by
  unfold stV
  show ((s.steps + 1 : Nat) : Int) - ((s.lead % 16777216 : Nat) : Int) = _
  omega
theorem FsAt.used_le {B : Nat} {X : FsX} {w : World} {bf : Nat} {s : Fs} (_ : FsAt B X w bf s) (ok : FsOk s) (hs : s.steps ≤ 16777216) : used s ≤ 70368744177664 := by
  have h1 := usedD_le (fun f hf => (ok.dat f hf).2) s.now
  have h2 := ok.nowLen
  unfold used
  have h3 : s.now.length * 4194304 ≤ 16777216 * 4194304 := Nat.mul_le_mul_right _ (Nat.le_trans h2 hs)
  omega
theorem tick_used (s : Fs) : used (tick s) = used s := rfl
/-- No power: a step is refused. -/
theorem step_cut {B : Nat} {X : FsX} {w : World} {bf : Nat} {s : Fs} (h : FsAt B X w bf s) (hm : s.more = 0) :
    Calls Tryd.prog 41 #[.pointer (some ⟨bf, 0, none⟩)] w fun e w' => e = .returned (.int .i64 190) ∧ w = w' := by
  obtain ⟨_, _, _, _, _, _, c6⟩ := h.cells
  rw [hm] at c6
  clear h hm
  go_enter Tryd.func41, Tryd.ntmps41
  go_wp2_with fail
  go_ret
  exact ⟨rfl, rfl⟩
set_option maxHeartbeats 1000000 in
theorem step_ok {B : Nat} {X : FsX} {w : World} {bf : Nat} {s : Fs} (h : FsAt B X w bf s) (ok : FsOk s) (hs : s.steps ≤ 16777216) (hm : s.more ≠ 0) :
    Calls Tryd.prog 41 #[.pointer (some ⟨bf, 0, none⟩)] w fun e w' => e = .returned (.int .i64 0) ∧ FsAt B X w' bf (tick s) ∧ Alone bf w w' := by
  obtain ⟨_, _, _, _, _, c5, c6⟩ := h.cells
  have f5 := h.free 5
  have f6 := h.free 6
  have HH := Lib.hid h
  have l1 := ok.lo
  have l2 := ok.hi
  obtain ⟨m, hme⟩ : ∃ m, s.more = m := ⟨_, rfl⟩
  have HM := Lib.hid hme
  rw [hme] at c6 hm l1 l2
  clear hme h ok
  have g0 : (m == 0) = false := beq_eq_false_iff_ne.2 hm
  have hws : IntKind.i64.wrap (stV s + 1) = stV s + 1 := IntWalk.i64_in _ (by have := stV_bd hs; omega)
  have hst := stV_tick s
  by_cases hp : 0 < m
  · have g1 : decide (m > 0) = true := decide_eq_true hp
    go_enter Tryd.func41, Tryd.ntmps41
    go_wp2_with fail
    go_ret
    refine ⟨rfl, ?_, ?_⟩
    · refine HH.out.reRow (fun k hk => ?_) (by simp) ?_ rfl rfl rfl rfl (Nat.le_succ _)
      · rw [Below.heap_setCell _ _ _ k hk, Below.heap_setCell _ _ _ k hk]
      · rw [cells_set (cells_set HH.out.blk _) _]
        unfold fsRow
        rw [hst]
        unfold tick
        rw [HM.out, if_pos hp]
        rfl
    · exact (Alone.set bf 6 w _).trans (Alone.set bf 5 _ _)
  · have g1 : decide (m > 0) = false := decide_eq_false hp
    go_enter Tryd.func41, Tryd.ntmps41
    go_wp2_with fail
    go_ret
    refine ⟨rfl, ?_, ?_⟩
    · refine HH.out.reRow (fun k hk => ?_) (by simp) ?_ rfl rfl rfl rfl (Nat.le_succ _)
      · rw [Below.heap_setCell _ _ _ k hk]
      · rw [cells_set HH.out.blk _]
        unfold fsRow
        rw [hst]
        unfold tick
        rw [HM.out, if_neg (by omega)]
        rfl
    · exact Alone.set bf 5 w _
theorem used_any {B : Nat} {X : FsX} {w : World} {bf : Nat} {s : Fs} (h : FsAt B X w bf s) :
    Calls Tryd.prog 17 #[.pointer (some ⟨bf, 0, none⟩)] w fun e w' => e = .returned (.int .i64 (used s : Int)) ∧ w = w' := by
  obtain ⟨_, c1, _⟩ := h.cells
  clear h
  go_enter Tryd.func17, Tryd.ntmps17
  go_wp2_with fail
  go_ret
  exact ⟨rfl, rfl⟩
theorem left_any {B : Nat} {X : FsX} {w : World} {bf : Nat} {s : Fs} (h : FsAt B X w bf s) (ok : FsOk s) (hs : s.steps ≤ 16777216) :
    Calls Tryd.prog 52 #[.pointer (some ⟨bf, 0, none⟩)] w fun e w' => ∃ n, e = .returned (.int .i64 ((s.room : Int) - (used s : Int))) ∧ w' = w.drewN n := by
  obtain ⟨c0, c1, _⟩ := h.cells
  have hu := h.used_le ok hs
  have hr := ok.room
  generalize used s = u at *
  generalize s.room = r at *
  clear h ok
  go_enter Tryd.func52, Tryd.ntmps52
  go_wp2_with fail
  have hw : IntKind.i64.wrap ((r : Int) - (u : Int)) = (r : Int) - (u : Int) := IntWalk.i64_in _ (by omega)
  go_quiet (fail)
  clear hw
  go_wp2_with fail
  go_ret
  exact ⟨_, rfl, rfl⟩
/-- A number, or the bound beyond which it lies. -/
def clampI (n : Int) (m : Nat) : Nat := min n.toNat m
theorem within_any (n : Int) (m : Nat) (w : World) : Calls Tryd.prog 44 #[.int .i64 n, .int .i64 (m : Int)] w fun e w' => e = .returned (.int .i64 (clampI n m : Int)) ∧ w = w' := by
  go_enter Tryd.func44, Tryd.ntmps44
  go_wp2_with fail
  go_ret
  refine ⟨?_, rfl⟩
  show Ending.returned (.int .i64 (min (max n 0) (m : Int))) = _
  rw [show min (max n 0) (m : Int) = ((clampI n m : Nat) : Int) from by unfold clampI; omega]
end Go.Proofs.YtgknihcpmpfocaaDoor
namespace Go.Proofs.YtgknihcpmpfocaaDoor
open Go.RowKit Go.Maps
theorem RowM.shape {w : World} {B : Nat} {v : Value} {xs : List Value} (h : RowM w B v xs) : ∃ a c, v = .slice a xs.length c := by
  rcases h with ⟨h0, h1⟩ | ⟨g, cap, h1, _⟩
  · subst h0; exact ⟨none, 0, h1⟩
  · exact ⟨_, _, h1⟩
theorem FileOk.shape {B : Nat} {X : FsX} {w : World} {s : Fs} {i : Nat} (h : FileOk B X w s i) : ∃ a c, X.dv i = .slice a (s.files.getD i noFi).data.length c := by
  have := h.row.shape
  rwa [bv_len] at this
theorem FileOk.cells {B : Nat} {X : FsX} {w : World} {s : Fs} {i : Nat} (h : FileOk B X w s i) : w.cell? ⟨X.fb i, 0, none⟩ = some (X.dv i) ∧ w.cell? ⟨X.fb i, 1, none⟩ = some (.int .i64 ((s.files.getD i noFi).dur : Int)) :=
  ⟨by rw [cell_of_row _ _ _ _ _ _ h.blk]; rfl, by rw [cell_of_row _ _ _ _ _ _ h.blk]; rfl⟩
theorem size_any {w : World} {b n : Nat} {D : DataW Unit} {fb : Nat → Nat} {l : Dir} {fs : List Fi} (hm : MapAt w b n D fb l) {x : Nm} (hx : x.length ≤ 4194304)
    (hf : ∀ i, fnd l x = some i → ∃ a c, w.cell? ⟨fb i, 0, none⟩ = some (.slice a (fs.getD i noFi).data.length c)) :
    Calls Tryd.prog 66 #[.map (some b), .string ⟨x.toArray⟩] w fun e w' => e = .returned (.int .i64 (sizeD fs l x : Int)) ∧ w = w' := by
  have hl := hm.look hx
  unfold fndV at hl
  unfold sizeD
  cases hi : fnd l x with
  | none =>
    rw [hi] at hl
    clear hm hf hi
    go_enter Tryd.func66, Tryd.ntmps66
    go_wp2_with fail
    go_ret
    exact ⟨rfl, rfl⟩
  | some i =>
    rw [hi] at hl
    obtain ⟨a, c, hc⟩ := hf i hi
    show Calls _ _ _ _ (fun e w' => e = .returned (.int .i64 ((fs.getD i noFi).data.length : Int)) ∧ w = w')
    generalize (fs.getD i noFi).data.length = m at *
    clear hm hf hi
    go_enter Tryd.func66, Tryd.ntmps66
    go_wp2_with fail
    go_ret
    exact ⟨rfl, rfl⟩
def DoneP (b n : Nat) (fb : Nat → Nat) (l : Dir) (w : World) (e : Ending) (w' : World) : Prop := e = .returned (.tuple #[]) ∧ ∃ D, MapAt w' b n D fb l ∧ Alone b w w'
theorem fndB_del {fb : Nat → Nat} {l : Dir} (hr : Rise l) {D : DataW Unit} (h : ∀ x z, D.atKey (.string x) z = fndB fb l x z) {a : Ac} (ha : a.file = none) (x : Nm) (z : DataW Unit) :
    (D.del (.string a.gone)).atKey (.string x) z = fndB fb (doA l a) x z := by
  unfold fndB
  rw [fnd_doA hr, ha]
  show _ = _
  by_cases e : x = a.gone
  · rw [e, atKey_del_same]; simp
  · rw [atKey_del_other (fun h2 => e (by injection h2)), h x z]
    simp only [e, if_false]
    rfl
theorem fndB_put {fb : Nat → Nat} {l : Dir} (hr : Rise l) {D : DataW Unit} (ht : Tidy D) (h : ∀ x z, D.atKey (.string x) z = fndB fb l x z) {a : Ac} {i : Nat} (ha : a.file = some i) (x : Nm) (z : DataW Unit) :
    ((D.del (.string a.gone)).put (.string a.come) (.lit (.int .i64 (fb i : Int)))).atKey (.string x) z = fndB fb (doA l a) x z := by
  have hm := (ht.del (.string a.gone)).isMap
  unfold fndB
  rw [fnd_doA hr, ha]
  by_cases e : x = a.come
  · rw [e, atKey_put_same hm (show WideAt.IsKeyLit (.string a.come) from trivial)]; simp
  · rw [atKey_put_other (fun h2 => e (by injection h2))]
    by_cases e2 : x = a.gone
    · rw [e2, atKey_del_same]
      have : ¬ a.gone = a.come := fun h3 => e (e2.trans h3)
      simp [this]
    · rw [atKey_del_other (fun h2 => e2 (by injection h2)), h x z]
      simp only [e, e2, if_false]
      rfl
/-- The box of a change, behind a call that writes block b alone. -/
theorem box_stays {w w1 : World} {b : Nat} {cs : Array Value} (hb : b < w.heap.size) (h : (w.alloc (.cells cs 101)).grownBy w1 (some b)) : w1.heap[w.heap.size]? = some (.cells cs 101 (0, 0)) :=
  (h.block w.heap.size (by simp) (fun e => by injection e with e; omega)).trans (new_five w cs 101)
set_option maxHeartbeats 1000000 in
theorem do_any {w : World} {b n : Nat} {D : DataW Unit} {fb : Nat → Nat} {l : Dir} (hm : MapAt w b n D fb l) (hr : Rise l) (hn : n ≤ 1099511627776) (a : Ac) (hg : a.gone.length ≤ 4194304) (hc : a.come.length ≤ 4194304) :
    Calls Tryd.prog 55 #[.map (some b), .agg (acV fb a).toArray] w (DoneP b (n + 1) fb (doA l a) w) := by
  have hown := Lib.hid (hm.own.alloc (.cells (acV fb a).toArray 101))
  have HT := Lib.hid hm.tidy
  have HA := Lib.hid hm.at_
  have HR := Lib.hid hr
  have hbl := hm.own.lt
  have hkg := key_of hg
  have hkc := key_of hc
  have A0 := Lib.hid (Alone.alloc b w (.cells (acV fb a).toArray 101))
  clear hm hr
  have hmx : n < maxLen := by unfold maxLen; omega
  clear hn
  obtain ⟨g, c, f⟩ := a
  cases f with
  | none =>
    unfold acV acP at hown A0 ⊢
    simp only [] at hown A0 hkg hkc ⊢
    go_enter Tryd.func55, Tryd.ntmps55
    go_wp2_with ((at_delete; refine wpList_delete_own _ rfl _ _ 67 9 rfl 82 keyLaw Tryd.underlying67 ptrR b n D rfl hown.out _ _ rfl hkg ?_; intro w1 hown1 hturn1; have O1 := Lib.hid hown1; have T1 := Lib.hid hturn1.grown; have hbx := box_stays hbl hturn1.grown; have q2 : w1.cell? ⟨w.heap.size, 2, none⟩ = some (.pointer none) := (cell_of_row _ _ _ _ _ _ hbx).trans rfl; clear hown1 hturn1 hbx))
    go_end0
    exact ⟨rfl, _, ⟨O1.out.mono (Nat.le_succ n), HT.out.del _, fun x z => fndB_del HR.out HA.out (a := ⟨g, c, none⟩) rfl x z⟩, A0.out.trans (Alone.of T1.out)⟩
  | some i =>
    unfold acV acP at hown A0 ⊢
    simp only [] at hown A0 hkg hkc ⊢
    go_enter Tryd.func55, Tryd.ntmps55
    go_wp2_with (first | (at_delete; refine wpList_delete_own _ rfl _ _ 67 9 rfl 82 keyLaw Tryd.underlying67 ptrR b n D rfl hown.out _ _ rfl hkg ?_; intro w1 hown1 hturn1; have O1 := Lib.hid hown1; have T1 := Lib.hid hturn1.grown; have hbx := box_stays hbl hturn1.grown; have q1 : w1.cell? ⟨w.heap.size, 1, none⟩ = some (.string ⟨c.toArray⟩) := (cell_of_row _ _ _ _ _ _ hbx).trans rfl; have q2 : w1.cell? ⟨w.heap.size, 2, none⟩ = some (.pointer (some ⟨fb i, 0, none⟩)) := (cell_of_row _ _ _ _ _ _ hbx).trans rfl; clear hown1 hturn1 hbx) | (at_mapUpdate; refine wpList_mapUpdate_own _ rfl _ _ _ 67 rfl 9 82 keyLaw Tryd.underlying67 ptrR b n _ rfl O1.out hmx _ _ _ rfl rfl hkc (.lit (.int .i64 (fb i : Int))) [] rfl ?_; intro w2 hown2 hgrow2; have O2 := Lib.hid hown2; have T2 := Lib.hid hgrow2; clear hown2 hgrow2; go_frame))
    go_end0
    exact ⟨rfl, _, ⟨O2.out, (HT.out.del _).put (show WideAt.IsKeyLit (.string c) from trivial) _, fun x z => fndB_put HR.out HT.out HA.out (a := ⟨g, c, some i⟩) rfl x z⟩, (A0.out.trans (Alone.of T1.out)).trans (Alone.of T2.out)⟩
end Go.Proofs.YtgknihcpmpfocaaDoor
namespace Go.Proofs.YtgknihcpmpfocaaDoor
open Go.RowKit Go.Maps
attribute [local go_sem ↓] Go.wp_at_zero Go.wp_at_succ
theorem wpAnyD_one {P : Program} {ops : Array Oper} {md : Region.Mode} {Q : Exit → Act → World → Prop} {S : World → Prop} {t i fuel : Nat} {o : Oper} {listed : Array Bool} {a : Act} {w : World} (hr : Region.ready md ops listed = [i]) (hit : i ≠ t) (hi : ops[i]? = some o)
    (h : ∀ n (K : Act → World → Prop), (∀ a' w', S w' → wpAnyD P md ops Q S t fuel (listed.setIfInBounds i true) a' w' → K a' w') → if Region.wanted o (yielded ops a.tmps) = true then Oper.wp P o a (w.drewN n) K Q else K (a.put o.dst undef) (w.drewN n)) : wpAnyD P md ops Q S t (fuel + 1) listed a w := by
  refine ⟨fun h0 => (by rw [h0] at hr; cases hr), fun j hj _ n => ?_, fun ht => (by rw [hr, List.mem_singleton] at ht; exact absurd ht.symm hit)⟩
  rw [hr, List.mem_singleton] at hj
  subst hj
  have h1 := h n _ (fun a' w' h2 h3 => And.intro h2 h3)
  unfold Go.wpOp
  simp only [hi]
  split at h1
  · rename_i hw; rw [if_pos hw]; exact Or.inl h1
  · rename_i hw; rw [if_neg hw]; exact h1
theorem sizeD_max {fs : List Fi} (hd : ∀ f ∈ fs, f.data.length ≤ 4194304) (l : Dir) (x : Nm) : sizeD fs l x ≤ 4194304 := by
  unfold sizeD
  cases fnd l x with
  | none => exact Nat.zero_le _
  | some i =>
    show (fs.getD i noFi).data.length ≤ _
    by_cases hp : i < fs.length
    · exact hd _ (by simp [List.getD, hp])
    · have : fs.getD i noFi = noFi := by simp [List.getD, List.getElem?_eq_none (Nat.le_of_not_lt hp)]
      rw [this]; simp [noFi]
theorem frozen_box {w : World} {b : Nat} {cs : Array Value} {t : TypeId} (h : w.heap[b]? = some (.cells cs t (0, 0))) (q : Nat) : w.frozen? ⟨b, q, none⟩ = false := by
  unfold World.frozen?; simp [h]
theorem any_step {K : Act → World → Prop} {a : Act} {w : World} (h : ∀ w1, w1 = w → K a w1) : K a w := h _ rfl
def chg (s : Fs) (a : Ac) : Fs := { s with now := doA s.now a, acts := s.acts ++ [a] }
theorem sizeD_le {fs : List Fi} {l : Dir} (hr : Rise l) (x : Nm) : sizeD fs l x ≤ usedD fs l := by have := usedD_wout (fs := fs) hr x; omega
theorem sizeD_wout {fs : List Fi} {l : Dir} (hr : Rise l) {x y : Nm} (hne : y ≠ x) : sizeD fs (wout l x) y = sizeD fs l y := by
  have e : fnd (wout l x) y = fnd l y := by
    have := fnd_doA hr ⟨x, [], none⟩ y
    simp only [hne, if_false] at this
    exact this
  unfold sizeD
  rw [e]
/-- How much is used behind a change of names. -/
theorem used_do {fs : List Fi} {l : Dir} (hr : Rise l) (a : Ac) (hne : a.gone ≠ a.come) (hn : a.file = none → fnd l a.come = none) :
    sizeD fs l a.gone + sizeD fs l a.come ≤ usedD fs l ∧ usedD fs (doA l a) = usedD fs l - (sizeD fs l a.gone + sizeD fs l a.come) + sizeD fs (doA l a) a.come := by
  have h1 := usedD_wout (fs := fs) hr a.gone
  cases ha : a.file with
  | none =>
    have hz : sizeD fs l a.come = 0 := by unfold sizeD; rw [hn ha]
    have hz2 : sizeD fs (doA l a) a.come = 0 := by
      unfold sizeD
      rw [fnd_doA hr, ha]
      simp only [hn ha, ite_self]
    have e : doA l a = wout l a.gone := by unfold doA; rw [ha]
    rw [hz2, e, hz]; omega
  | some i =>
    have h2 := usedD_wout (fs := fs) (hr.wout a.gone) a.come
    rw [sizeD_wout hr (fun e => hne e.symm)] at h2
    have e : doA l a = insD a.come i (wout (wout l a.gone) a.come) := by unfold doA; rw [ha]
    have hs : sizeD fs (doA l a) a.come = (fs.getD i noFi).data.length := by
      unfold sizeD
      rw [fnd_doA hr, ha]
      simp
    rw [hs, e, usedD_ins]; omega
theorem acV_len (fb : Nat → Nat) (a : Ac) : (acV fb a).length = 3 := rfl
theorem acsV_snoc (fb : Nat → Nat) (l : List Ac) (a : Ac) : acsV fb (l ++ [a]) = acsV fb l ++ acV fb a := by unfold acsV; simp
theorem chg_fin {B : Nat} {X : FsX} {w wF : World} {bf : Nat} {t : Fs} {a : Ac} {va' : Value} {D' : DataW Unit} (h : FsAt B X w bf t) (hz : w.heap.size ≤ wF.heap.size)
    (hK : ∀ k, k < w.heap.size → X.T k ≠ .fs → X.T k ≠ .now → X.T k ≠ .row → wF.heap[k]? = w.heap[k]?)
    (hblk : wF.heap[bf]? = some (.cells #[.int .i64 (t.room : Int), .int .i64 (used (chg t a) : Int), .map (some X.bn), .map (some X.bd), va', .int .i64 (stV t), .int .i64 t.more] 70 (0, 0)))
    (hmn : MapAt wF X.bn (X.nn + 1) D' X.fb (doA t.now a)) (hrow : wF.ownsRow B 101 3 va' (t.acts.length + 1) (acsV X.fb t.acts ++ acV X.fb a))
    (hown : ∀ k, va'.ownBlock = some k → X.va.ownBlock = some k ∨ w.heap.size ≤ k)
    (hfile : ∀ i, a.file = some i → FileOk B X w t i) (hnn : X.nn + 1 ≤ t.steps) (hdd : X.nd + t.acts.length + 1 ≤ t.steps) :
    ∃ X', FsAt B X' wF bf (chg t a) ∧ X'.fb = X.fb ∧ ∀ k, X'.T k ≠ .no → X.T k ≠ .no ∨ w.heap.size ≤ k := by
  have hT : ∀ k, k < w.heap.size → X.T k ≠ .row → (if va'.ownBlock = some k then Role.row else X.T k) = X.T k := fun k hk ht => by
    rw [if_neg (fun e => ?_)]
    rcases hown k e with h1 | h1
    · exact ht (h.tr k h1)
    · omega
  have hlt : ∀ k, X.T k ≠ .no → k < w.heap.size := fun k ht => (h.dom k ht).2
  have hB : B ≤ w.heap.size := Nat.le_of_lt (Nat.lt_of_le_of_lt h.bfB.1 h.bfB.2)
  refine ⟨{ X with T := fun k => if va'.ownBlock = some k then .row else X.T k, nn := X.nn + 1, va := va', Dn := D' }, ⟨fun k ht => ?_, ?_, ?_, ?_, fun k e => ?_, hblk, hmn, ?_, hnn, ?_, ?_, fun i hi => ?_⟩, rfl, fun k ht => ?_⟩
  · by_cases e : va'.ownBlock = some k
    · refine ⟨?_, (World.ownsRow.lt hrow k e).2⟩
      exact (World.ownsRow.lt hrow k e).1
    · have ht2 : X.T k ≠ .no := fun c => ht (by show (if va'.ownBlock = some k then Role.row else X.T k) = _; rw [if_neg e]; exact c)
      exact ⟨(h.dom k ht2).1, Nat.lt_of_lt_of_le (h.dom k ht2).2 hz⟩
  · show (if va'.ownBlock = some bf then Role.row else X.T bf) = _
    rw [hT bf h.bfB.2 (by rw [h.tf]; exact fun c => by cases c), h.tf]
  · show (if va'.ownBlock = some X.bn then Role.row else X.T X.bn) = _
    rw [hT _ (hlt _ (by rw [h.tn]; exact fun c => by cases c)) (by rw [h.tn]; exact fun c => by cases c), h.tn]
  · show (if va'.ownBlock = some X.bd then Role.row else X.T X.bd) = _
    rw [hT _ (hlt _ (by rw [h.td]; exact fun c => by cases c)) (by rw [h.td]; exact fun c => by cases c), h.td]
  · show (if va'.ownBlock = some k then Role.row else X.T k) = _
    rw [if_pos e]
  · exact h.md.kept (hK _ (hlt _ (by rw [h.td]; exact fun c => by cases c)) (by rw [h.td]; exact fun c => by cases c) (by rw [h.td]; exact fun c => by cases c) (by rw [h.td]; exact fun c => by cases c))
  · show X.nd + (t.acts ++ [a]).length ≤ t.steps
    rw [List.length_append, List.length_singleton]; omega
  · show wF.ownsRow B 101 3 va' (t.acts ++ [a]).length (acsV X.fb (t.acts ++ [a]))
    rw [acsV_snoc, List.length_append, List.length_singleton]
    exact hrow
  · have hf : FileOk B X w t i := by
      rcases hi with ⟨p, hp, e⟩ | ⟨b, hb, e⟩
      · exact h.fil i (Or.inl ⟨p, hp, e⟩)
      · rcases List.mem_append.1 hb with hb | hb
        · exact h.fil i (Or.inr ⟨b, hb, e⟩)
        · rw [List.mem_singleton.1 hb] at e
          exact hfile i e
    have hk := hf.kept (w' := wF) (fun k e => hK k (hlt k (by rcases e with e | e <;> rw [e] <;> exact fun c => by cases c)) (by rcases e with e | e <;> rw [e] <;> exact fun c => by cases c) (by rcases e with e | e <;> rw [e] <;> exact fun c => by cases c) (by rcases e with e | e <;> rw [e] <;> exact fun c => by cases c)) hz
    refine ⟨?_, fun k e => ?_, hk.blk, hk.row⟩
    · show (if va'.ownBlock = some (X.fb i) then Role.row else X.T (X.fb i)) = _
      rw [hT _ (hlt _ (by rw [hf.tb]; exact fun c => by cases c)) (by rw [hf.tb]; exact fun c => by cases c), hf.tb]
    · have h1 := hf.tv k e
      show (if va'.ownBlock = some k then Role.row else X.T k) = _
      rw [hT _ (hlt _ (by rw [h1]; exact fun c => by cases c)) (by rw [h1]; exact fun c => by cases c), h1]
  · by_cases e : va'.ownBlock = some k
    · rcases hown k e with h1 | h1
      · left; rw [h.tr k h1]; exact fun c => by cases c
      · exact Or.inr h1
    · left
      intro c
      exact ht (by show (if va'.ownBlock = some k then Role.row else X.T k) = _; rw [if_neg e]; exact c)
/-- What a call leaves: an answer, and the file system as it is then. -/
def FsP (B : Nat) (X : FsX) (w : World) (bf : Nat) (v : Value) (s' : Fs) (e : Ending) (w' : World) : Prop := e = .returned v ∧ ∃ X', FsAt B X' w' bf s' ∧ FsUp B X w X' w'
theorem FsAt.box {B : Nat} {X : FsX} {w : World} {bf : Nat} {s : Fs} (h : FsAt B X w bf s) : X.T w.heap.size = .no := by
  cases e : X.T w.heap.size with
  | no => rfl
  | _ => exact absurd (h.dom w.heap.size (by rw [e]; exact fun c => by cases c)).2 (by omega)
theorem FsAt.baseB {B : Nat} {X : FsX} {w : World} {bf : Nat} {s : Fs} (h : FsAt B X w bf s) : B ≤ w.heap.size := Nat.le_of_lt (Nat.lt_of_le_of_lt h.bfB.1 h.bfB.2)
theorem change_cut {B : Nat} {X : FsX} {w : World} {bf : Nat} {s : Fs} (h : FsAt B X w bf s) (hm : s.more = 0) (a : Ac) :
    Calls Tryd.prog 50 #[.pointer (some ⟨bf, 0, none⟩), .agg (acV X.fb a).toArray] w fun e w' => e = .returned (.int .i64 190) ∧ Below w.heap.size w w' := by
  have b0 := Lib.hid ((Below.refl w.heap.size w).alloc (Nat.le_refl _) (.cells (acV X.fb a).toArray 101))
  have h0 := Lib.hid (h.below b0.out)
  clear h
  have HM := Lib.hid hm
  unfold acV at *
  obtain ⟨ap, hap⟩ : ∃ v, acP X.fb a = v := ⟨_, rfl⟩
  rw [hap] at b0 h0 ⊢
  clear hap hm
  go_enter Tryd.func50, Tryd.ntmps50
  go_wp2_with fail
  refine (step_cut h0.out HM.out).mono ?_
  rintro e w1 ⟨rfl, rfl⟩
  go_wp2_with fail
  go_ret
  exact ⟨rfl, b0.out⟩
/-- What a call leaves that writes blocks of P alone. -/
structure Far (P : Nat → Prop) (w w' : World) : Prop where
  os : w'.os = w.os
  tape : w'.tape = w.tape
  output : w'.output = w.output
  size : w.heap.size ≤ w'.heap.size
  block : ∀ k, k < w.heap.size → ¬ P k → w'.heap[k]? = w.heap[k]?
theorem Far.refl (P : Nat → Prop) (w : World) : Far P w w := ⟨rfl, rfl, rfl, Nat.le_refl _, fun _ _ _ => rfl⟩
theorem Far.trans {P : Nat → Prop} {w w1 w2 : World} (h : Far P w w1) (k : Far P w1 w2) : Far P w w2 :=
  ⟨k.os.trans h.os, k.tape.trans h.tape, k.output.trans h.output, Nat.le_trans h.size k.size, fun q hq hn => (k.block q (Nat.lt_of_lt_of_le hq h.size) hn).trans (h.block q hq hn)⟩
theorem Far.alone {P : Nat → Prop} {b : Nat} {w w' : World} (h : Alone b w w') (hb : P b) : Far P w w' := ⟨h.os, h.tape, h.output, h.size, fun k hk hn => h.block k hk (fun e => hn (by rw [e]; exact hb))⟩
theorem Far.mono {P P' : Nat → Prop} {w w' : World} (h : Far P w w') (hp : ∀ k, P k → P' k) : Far P' w w' := ⟨h.os, h.tape, h.output, h.size, fun k hk hn => h.block k hk (fun e => hn (hp k e))⟩
theorem Far.drewN (P : Nat → Prop) (w : World) (n : Nat) : Far P w (w.drewN n) := ⟨rfl, rfl, rfl, Nat.le_refl _, fun _ _ _ => rfl⟩
theorem Far.alloc (P : Nat → Prop) (w : World) (o : Obj) : Far P w (w.alloc o) := ⟨rfl, rfl, rfl, by simp, fun k hk _ => Below.heap_alloc w o k hk⟩
theorem Far.grew {P : Nat → Prop} {w w' : World} {v v' : Value} (h : Grew w w' v v') (hP : ∀ k, v.ownBlock = some k → P k) : Far P w w' :=
  ⟨h.gb.os, h.gb.tape, h.gb.output, h.gb.size, fun k hk hn => h.gb.block k hk (fun e => hn (hP k e.symm))⟩
theorem Far.below {P : Nat → Prop} {B : Nat} {w w' : World} (h : Far P w w') (hP : ∀ k, P k → B ≤ k) (hB : B ≤ w.heap.size) : Below B w w' :=
  ⟨h.os, h.tape, h.output, h.size, fun k hk => h.block k (Nat.lt_of_lt_of_le hk hB) (fun e => by have := hP k e; omega)⟩
theorem FsAt.shapes {B : Nat} {X : FsX} {w : World} {bf : Nat} {s : Fs} (h : FsAt B X w bf s) (hl : ∀ x i, fnd s.now x = some i → Live s i) (x : Nm) : ∀ i, fnd s.now x = some i → ∃ a c, w.cell? ⟨X.fb i, 0, none⟩ = some (.slice a (s.files.getD i noFi).data.length c) := fun i hi => by
  have hf := h.fil i (hl x i hi)
  obtain ⟨a, c, e⟩ := hf.shape
  exact ⟨a, c, by rw [hf.cells.1, e]⟩
theorem FileOk.shapeC {B : Nat} {X : FsX} {w : World} {s : Fs} {i : Nat} (h : FileOk B X w s i) : ∃ a c, w.cell? ⟨X.fb i, 0, none⟩ = some (.slice a (s.files.getD i noFi).data.length c) := by
  obtain ⟨a, c, e⟩ := h.shape
  exact ⟨a, c, by rw [h.cells.1, e]⟩
theorem change_info : (Tryd.prog.info? 101).map (fun i => (i.zero, i.size, i.bytes)) = some (some (.agg #[.string ByteArray.empty, .string ByteArray.empty, .pointer none]), 3, 40) := by kernel_rfl
theorem srcA_at (w : World) (g : Nat) (x y : ByteArray) (p : Value) (hp : p.oneCell' = true) (h : w.heap[g]? = some (.cells #[.string x, .string y, p] 101 (0, 0))) : Src Tryd.prog 3 68 (.slice (some ⟨g, 0, none⟩) 1 1) 1 [.string x, .string y, p] w := by
  refine Src.ofSlice _ Tryd.underlying68 _ 1 1 _ rfl (fun j u hj => ?_) (fun u hu => ?_)
  · rw [add_pos, Nat.zero_add, cell_of_row _ _ _ _ _ _ h]
    match j, hj with
    | 0, hj => simpa using hj
    | 1, hj => simpa using hj
    | 2, hj => simpa using hj
  · simp at hu
    rcases hu with rfl | rfl | rfl
    · rfl
    · rfl
    · exact hp
theorem acP_one (fb : Nat → Nat) (a : Ac) : (acP fb a).oneCell' = true := by unfold acP; cases a.file <;> rfl
set_option maxRecDepth 100000 in
set_option maxHeartbeats 4000000 in
theorem change_ok {B : Nat} {X : FsX} {w : World} {bf : Nat} {s : Fs} (h : FsAt B X w bf s) (ok : FsOk s) (hs : s.steps ≤ 16777215) (hm : s.more ≠ 0) (a : Ac) (hg : a.gone.length ≤ 4194304) (hc : a.come.length ≤ 4194304)
    (hne : a.gone ≠ a.come) (hn : a.file = none → fnd s.now a.come = none) (hfile : ∀ i, a.file = some i → FileOk B X w s i) :
    Calls Tryd.prog 50 #[.pointer (some ⟨bf, 0, none⟩), .agg (acV X.fb a).toArray] w (FsP B X w bf (.int .i64 0) (chg (tick s) a)) := by
  obtain ⟨j0, hj, hy0, hy1, hy2⟩ := info_parts change_info
  have hrise := ok.nowOk.rise
  have b0 := Lib.hid ((Below.refl w.heap.size w).alloc (Nat.le_refl _) (.cells (acV X.fb a).toArray 101))
  have h0 := Lib.hid (h.below b0.out)
  have hbx := Lib.hid (new_five w (acV X.fb a).toArray 101)
  have HB := Lib.hid h.baseB
  have HF := Lib.hid (fun i hi => (hfile i hi).kept (w' := w.alloc (.cells (acV X.fb a).toArray 101)) (fun k e => b0.out.block k (h.dom k (by rcases e with e | e <;> rw [e] <;> exact fun c => by cases c)).2) b0.out.size)
  have HUD := Lib.hid (used_do (fs := s.files) hrise a hne hn)
  have HUL := Lib.hid (h.used_le ok (by omega))
  have HLV : Hid (∀ x i, fnd s.now x = some i → Live s i) := Lib.hid (fun x i hi => ok.live (fnd_mem hi))
  have HOK := Lib.hid ok
  have HNN := Lib.hid h.hn
  have HDD := Lib.hid h.hd
  have HBOX := Lib.hid h.box
  have HRI := Lib.hid hrise
  have HG := Lib.hid hg
  have HC := Lib.hid hc
  have HM := Lib.hid hm
  have HFN : Hid (∀ i, fnd (doA s.now a) a.come = some i → a.file = some i) := Lib.hid (fun i hi => by
    rw [fnd_doA hrise] at hi
    cases ha : a.file with
    | none => rw [ha] at hi; simp only [hn ha, ite_self] at hi; cases hi
    | some j => rw [ha] at hi; simpa using hi)
  have hbfw := h.bfB
  have hsz : w.heap.size < (w.alloc (.cells (acV X.fb a).toArray 101)).heap.size := by simp
  have hlen := Lib.hid (World.ownsRow.lt h.row)
  have hbn : X.bn ≠ bf := fun e => by have := h.tn; rw [e, h.tf] at this; cases this
  have hrb : ∀ k, X.va.ownBlock = some k → k ≠ bf ∧ k ≠ X.bn := fun k e => ⟨fun e2 => (by have h3 := h.tr k e; rw [e2, h.tf] at h3; cases h3), fun e2 => (by have h3 := h.tr k e; rw [e2, h.tn] at h3; cases h3)⟩
  have HRB := Lib.hid hrb
  have hbnl : B ≤ X.bn ∧ X.bn < w.heap.size := h.dom _ (by rw [h.tn]; exact fun c => by cases c)
  have HAL : Hid (s.acts.length ≤ s.steps) := Lib.hid (by have := ok.cnt; omega)
  clear h hfile hn hne ok hrise hg hc hm hrb
  unfold acV at b0 h0 hbx HF hsz ⊢
  go_enter Tryd.func50, Tryd.ntmps50
  go_upto_region 1 with fail
  generalize w.alloc (.cells [.string ⟨a.gone.toArray⟩, .string ⟨a.come.toArray⟩, acP X.fb a].toArray 101) = w0 at *
  obtain ⟨nb, hnb⟩ : ∃ n, w.heap.size = n := ⟨_, rfl⟩
  have HNB : Hid (w.heap.size = nb) := Lib.hid hnb
  rw [hnb] at hbx hsz hbfw hbnl HBOX ⊢
  clear hnb
  go_wp2_with fail
  refine (step_ok h0.out HOK.out (by omega) HM.out).mono ?_
  rintro e w1 ⟨rfl, hh1, al1⟩
  have F1 := Lib.hid (Far.refl (fun k => k = bf ∨ k = X.bn) w1)
  have H1 := Lib.hid hh1
  have hz1 := al1.size
  have AL1 := Lib.hid al1
  have HF1 : Hid (∀ i, a.file = some i → FileOk B X w1 s i) := Lib.hid (fun i hi => (HF.out i hi).kept (fun k e => al1.block k (h0.out.dom k (by rcases e with e | e <;> rw [e] <;> exact fun c => by cases c)).2 (fun e2 => by
    rw [e2, h0.out.tf] at e; rcases e with e | e <;> cases e)) al1.size)
  have HX1 : Hid (∀ W, Far (fun k => k = bf ∨ k = X.bn) w1 W → W.heap[nb]? = some (.cells [.string ⟨a.gone.toArray⟩, .string ⟨a.come.toArray⟩, acP X.fb a].toArray 101 (0, 0))) := Lib.hid (fun W hW => (hW.block nb (by omega) (by omega)).trans ((al1.block nb hsz (by omega)).trans hbx.out))
  clear hh1 al1
  obtain ⟨u, hu⟩ : ∃ u, used s = u := ⟨_, rfl⟩
  obtain ⟨sg, hsg⟩ : ∃ n, sizeD s.files s.now a.gone = n := ⟨_, rfl⟩
  obtain ⟨sc, hsc⟩ : ∃ n, sizeD s.files s.now a.come = n := ⟨_, rfl⟩
  obtain ⟨sd, hsd⟩ : ∃ n, sizeD s.files (doA s.now a) a.come = n := ⟨_, rfl⟩
  have HU2 : Hid (used (chg (tick s) a) = u - (sg + sc) + sd) := Lib.hid (by
    have h2 := HUD.out.2
    show usedD s.files (doA s.now a) = _
    rw [h2, hsg, hsc, hsd, ← hu]; rfl)
  have hsum : sg + sc ≤ u := by have h2 := HUD.out.1; rw [hsg, hsc] at h2; rw [← hu]; exact h2
  have hul : u ≤ 70368744177664 := by rw [← hu]; exact HUL.out
  have HSD : Hid (sizeD s.files (doA s.now a) a.come = sd) := Lib.hid hsd
  have H2 := Lib.hid (H1.out.drew 1)
  have F2 := Lib.hid (F1.out.trans (Far.drewN _ w1 1))
  have HSG := Lib.hid (size_any (fs := s.files) H2.out.mn HG.out (H2.out.shapes HLV.out a.gone))
  have HSC := Lib.hid (size_any (fs := s.files) H2.out.mn HC.out (H2.out.shapes HLV.out a.come))
  rw [show sizeD s.files (tick s).now a.gone = sg from hsg] at HSG
  rw [show sizeD s.files (tick s).now a.come = sc from hsc] at HSC
  have HUE : Hid (used (tick s) = u) := Lib.hid hu
  clear hsg hsc hsd hu
  have hw1 : IntKind.i64.wrap ((sg : Int) + (sc : Int)) = (sg : Int) + (sc : Int) := IntWalk.i64_in _ (by omega)
  have hw2 : IntKind.i64.wrap ((u : Int) - ((sg : Int) + (sc : Int))) = (u : Int) - ((sg : Int) + (sc : Int)) := IntWalk.i64_in _ (by omega)
  have hwd : w1.drewN 1 = w1.drew := rfl
  rw [hwd] at H2 F2 HSG HSC
  clear hwd
  go_wp2_with fail
  obtain ⟨_, c1, c2, _⟩ := H2.out.cells
  rw [HUE.out] at c1
  have f1 := H2.out.free 1
  have k0 : w1.drew.cell? ⟨nb, 0, none⟩ = some (.string ⟨a.gone.toArray⟩) := (cell_of_row _ _ _ _ _ _ (HX1.out _ F2.out)).trans rfl
  have k1 : w1.drew.cell? ⟨nb, 1, none⟩ = some (.string ⟨a.come.toArray⟩) := (cell_of_row _ _ _ _ _ _ (HX1.out _ F2.out)).trans rfl
  go_still_tail 22, (by kernel_rfl)
  still_call (HSG.out.mono (fun _ _ h => ⟨h.1, h.2.symm⟩))
  repeat still_step
  still_call (HSC.out.mono (fun _ _ h => ⟨h.1, h.2.symm⟩))
  repeat still_step
  refine wpStill_nil ?_
  change wpList _ _ _ _ _ w1.drew
  generalize w1.drew = w2 at *
  clear HSG HSC
  go_upto_region 5 with fail
  clear k0 k1 c1 c2 f1 hw1 hw2
  have hb3 : (w2.setCell ⟨bf, 1, none⟩ (.int .i64 ((u : Int) - ((sg : Int) + (sc : Int))))).heap[bf]? = some (.cells #[.int .i64 (s.room : Int), .int .i64 ((u : Int) - ((sg : Int) + (sc : Int))), .map (some X.bn), .map (some X.bd), X.va, .int .i64 (stV (tick s)), .int .i64 (tick s).more] 70 (0, 0)) := by
    rw [cells_set H2.out.blk _]; rfl
  have F3 := Lib.hid (F2.out.trans (Far.alone (P := fun k => k = bf ∨ k = X.bn) (Alone.set bf 1 w2 (.int .i64 ((u : Int) - ((sg : Int) + (sc : Int))))) (Or.inl rfl)))
  have M3 := Lib.hid (H2.out.mn.kept (w' := w2.setCell ⟨bf, 1, none⟩ (.int .i64 ((u : Int) - ((sg : Int) + (sc : Int))))) (Below.heap_setCell w2 _ _ _ hbn))
  have HB3 := Lib.hid hb3
  clear hb3
  generalize w2.setCell ⟨bf, 1, none⟩ (.int .i64 ((u : Int) - ((sg : Int) + (sc : Int)))) = w3 at *
  have F4 := Lib.hid (F3.out.trans (Far.drewN _ w3 1))
  have hwd : w3.drewN 1 = w3.drew := rfl
  rw [hwd] at F4
  have M4 : Hid (MapAt w3.drew X.bn X.nn X.Dn X.fb s.now) := Lib.hid (M3.out.kept rfl)
  have HDO := Lib.hid (show Calls Tryd.prog 55 #[.map (some X.bn), .agg #[.string ⟨a.gone.toArray⟩, .string ⟨a.come.toArray⟩, acP X.fb a]] w3.drew (DoneP X.bn (X.nn + 1) X.fb (doA s.now a) w3.drew) from do_any M4.out HRI.out (by have := HNN.out; omega) a HG.out HC.out)
  have c2 : w3.drew.cell? ⟨bf, 2, none⟩ = some (.map (some X.bn)) := (cell_of_row _ _ _ _ _ _ HB3.out).trans rfl
  have hbw := HX1.out _ F4.out
  have k0 : w3.drew.cell? ⟨nb, 0, none⟩ = some (.string ⟨a.gone.toArray⟩) := (cell_of_row _ _ _ _ _ _ hbw).trans rfl
  have k1 : w3.drew.cell? ⟨nb, 1, none⟩ = some (.string ⟨a.come.toArray⟩) := (cell_of_row _ _ _ _ _ _ hbw).trans rfl
  have k2 : w3.drew.cell? ⟨nb, 2, none⟩ = some (acP X.fb a) := (cell_of_row _ _ _ _ _ _ hbw).trans rfl
  have HBW := Lib.hid hbw
  clear hwd hbw
  go_still_tail 5, (by kernel_rfl)
  change wpList _ _ _ _ _ w3.drew
  have HB4 : Hid (w3.drew.heap[bf]? = w3.heap[bf]?) := Lib.hid rfl
  generalize w3.drew = w4 at *
  clear c2 k0 k1 k2
  go_wp2_with fail
  refine HDO.out.mono ?_
  rintro e w5 ⟨rfl, D5, m5, al5⟩
  clear HDO
  have M5 := Lib.hid m5
  have F5 := Lib.hid (F4.out.trans (Far.alone (P := fun k => k = bf ∨ k = X.bn) al5 (Or.inr rfl)))
  have hb4s : bf < w4.heap.size := by have := F4.out.size; omega
  have HB5 : Hid (w5.heap[bf]? = _) := Lib.hid ((al5.block bf hb4s (fun e => hbn e.symm)).trans (HB4.out.trans HB3.out))
  clear m5 al5 HB4 HB3 M3 M4 F4 hb4s
  go_upto_region 6 with fail
  have F6 := Lib.hid (F5.out.trans (Far.drewN _ w5 1))
  have hwd : w5.drewN 1 = w5.drew := rfl
  rw [hwd] at F6
  have M6 : Hid (MapAt w5.drew X.bn (X.nn + 1) D5 X.fb (doA s.now a)) := Lib.hid (M5.out.kept rfl)
  have HSC := Lib.hid (size_any (fs := s.files) M6.out HC.out (fun i hi => by
    have hf := HF1.out i (HFN.out i hi)
    have hk : FileOk B X w5.drew s i := hf.kept (fun k e => F6.out.block k (by rcases e with e | e <;> exact (H1.out.dom k (by rw [e]; exact fun c => by cases c)).2) (by
      rintro (e2 | e2)
      · rw [e2, H1.out.tf] at e; rcases e with e | e <;> cases e
      · rw [e2, H1.out.tn] at e; rcases e with e | e <;> cases e)) F6.out.size
    exact hk.shapeC))
  rw [HSD.out] at HSC
  have c1 : w5.drew.cell? ⟨bf, 1, none⟩ = some (.int .i64 ((u : Int) - ((sg : Int) + (sc : Int)))) := (cell_of_row _ _ _ _ _ _ HB5.out).trans rfl
  have c2 : w5.drew.cell? ⟨bf, 2, none⟩ = some (.map (some X.bn)) := (cell_of_row _ _ _ _ _ _ HB5.out).trans rfl
  have f1 : w5.drew.frozen? ⟨bf, 1, none⟩ = false := by unfold World.frozen?; rw [show w5.drew.heap[bf]? = _ from HB5.out]; simp
  have k1 : w5.drew.cell? ⟨nb, 1, none⟩ = some (.string ⟨a.come.toArray⟩) := (cell_of_row _ _ _ _ _ _ (HX1.out _ F6.out)).trans rfl
  have hsd : sd ≤ 4194304 := by rw [← HSD.out]; exact sizeD_max (fun f hf => (HOK.out.dat f hf).2) _ _
  have hw3 : IntKind.i64.wrap ((u : Int) - ((sg : Int) + (sc : Int)) + (sd : Int)) = (u : Int) - ((sg : Int) + (sc : Int)) + (sd : Int) := IntWalk.i64_in _ (by omega)
  clear hwd
  go_still_tail 14, (by kernel_rfl)
  still_call (HSC.out.mono (fun _ _ h => ⟨h.1, h.2.symm⟩))
  repeat still_step
  refine wpStill_nil ?_
  change wpList _ _ _ _ _ w5.drew
  have HB6 : Hid (w5.drew.heap[bf]? = _) := HB5
  generalize w5.drew = w6 at *
  clear HSC
  go_upto_region 7 with fail
  clear c1 c2 f1 k1 hw3
  have hb7 : (w6.setCell ⟨bf, 1, none⟩ (.int .i64 ((u : Int) - ((sg : Int) + (sc : Int)) + (sd : Int)))).heap[bf]? = some (.cells #[.int .i64 (s.room : Int), .int .i64 ((u : Int) - ((sg : Int) + (sc : Int)) + (sd : Int)), .map (some X.bn), .map (some X.bd), X.va, .int .i64 (stV (tick s)), .int .i64 (tick s).more] 70 (0, 0)) := by
    rw [cells_set HB6.out _]; rfl
  have F7 := Lib.hid (F6.out.trans (Far.alone (P := fun k => k = bf ∨ k = X.bn) (Alone.set bf 1 w6 (.int .i64 ((u : Int) - ((sg : Int) + (sc : Int)) + (sd : Int)))) (Or.inl rfl)))
  have M7 := Lib.hid (M6.out.kept (w' := w6.setCell ⟨bf, 1, none⟩ (.int .i64 ((u : Int) - ((sg : Int) + (sc : Int)) + (sd : Int)))) (Below.heap_setCell w6 _ _ _ hbn))
  have HB7 := Lib.hid hb7
  clear hb7 HB5 HB6 M5 M6 F5 F6
  generalize w6.setCell ⟨bf, 1, none⟩ (.int .i64 ((u : Int) - ((sg : Int) + (sc : Int)) + (sd : Int))) = w7 at *
  have hrow1 : w1.ownsRow B 101 3 X.va s.acts.length (acsV X.fb s.acts) := H1.out.row
  have hss : ∃ sa sc', X.va = .slice sa s.acts.length sc' := by
    rcases hrow1.2 with ⟨e1, e2⟩ | ⟨g, cap, cur, e1, _⟩
    · exact ⟨none, 0, by rw [e1]; congr 1; exact e2.symm⟩
    · exact ⟨_, _, e1⟩
  obtain ⟨sa, sc', hva⟩ := hss
  rw [hva] at hrow1 HB7
  have HVA := Lib.hid hva
  have HROW1 := Lib.hid hrow1
  have HHX := Lib.hid (HX1.out _ F7.out)
  have HS7 := Lib.hid (fun (W : World) (h1 : W.heap[bf]? = w7.heap[bf]?) (h2 : W.heap[nb]? = w7.heap[nb]?) => (show W.cell? ⟨bf, 4, none⟩ = some (.slice sa s.acts.length sc') ∧ W.cell? ⟨nb, 0, none⟩ = some (.string ⟨a.gone.toArray⟩) ∧ W.cell? ⟨nb, 1, none⟩ = some (.string ⟨a.come.toArray⟩) ∧ W.cell? ⟨nb, 2, none⟩ = some (acP X.fb a) from
    ⟨(cell_of_row _ _ _ _ _ _ (h1.trans HB7.out)).trans rfl, (cell_of_row _ _ _ _ _ _ (h2.trans HHX.out)).trans rfl, (cell_of_row _ _ _ _ _ _ (h2.trans HHX.out)).trans rfl, (cell_of_row _ _ _ _ _ _ (h2.trans HHX.out)).trans rfl⟩))
  clear hva hrow1
  refine wp_region_D 10 (fun W => W.cell? ⟨bf, 4, none⟩ = some (.slice sa s.acts.length sc') ∧ W.cell? ⟨nb, 0, none⟩ = some (.string ⟨a.gone.toArray⟩) ∧ W.cell? ⟨nb, 1, none⟩ = some (.string ⟨a.come.toArray⟩) ∧ W.cell? ⟨nb, 2, none⟩ = some (acP X.fb a)) (by kernel_rfl) (by kernel_rfl) (by kernel_rfl) ?_
  have hSd := HS7.out w7.drew rfl rfl
  refine wpAnyD_take (i := 0) (oi := ⟨_, _, _, _, _, _⟩) (v := ?_) rfl (by kernel_rfl) (by kernel_rfl) (by kernel_rfl) (by kernel_rfl) (fun _ _ _ h => h) (fun _ _ h => h) (Or.inl (Or.inl ⟨by rfl, ?_⟩)) hSd ?_
  rotate_left
  · intro W hSw; (try dsimp only at hSw); first | (go_simp; done) | (go_simp; with_reducible rfl)
  try simp only [Act.put, List.setIfInBounds_toArray, List.set_cons_zero, List.set_cons_succ]
  refine wpAnyD_take (i := 1) (oi := ⟨_, _, _, _, _, _⟩) (v := ?_) rfl (by kernel_rfl) (by kernel_rfl) (by kernel_rfl) (by kernel_rfl) (fun _ _ _ h => h) (fun _ _ h => h) (Or.inl (Or.inl ⟨by rfl, ?_⟩)) hSd ?_
  rotate_left
  · intro W hSw; (try dsimp only at hSw); first | (go_simp; done) | (go_simp; with_reducible rfl)
  try simp only [Act.put, List.setIfInBounds_toArray, List.set_cons_zero, List.set_cons_succ]
  refine wpAnyD_take (i := 2) (oi := ⟨_, _, _, _, _, _⟩) (v := ?_) rfl (by kernel_rfl) (by kernel_rfl) (by kernel_rfl) (by kernel_rfl) (fun _ _ _ h => h) (fun _ _ h => h) (Or.inl (Or.inl ⟨by rfl, ?_⟩)) hSd ?_
  rotate_left
  · intro W hSw; (try dsimp only at hSw); first | (go_simp; done) | (go_simp; with_reducible rfl)
  try simp only [Act.put, List.setIfInBounds_toArray, List.set_cons_zero, List.set_cons_succ]
  refine wpAnyD_take (i := 3) (oi := ⟨_, _, _, _, _, _⟩) (v := ?_) rfl (by kernel_rfl) (by kernel_rfl) (by kernel_rfl) (by kernel_rfl) (fun _ _ _ h => h) (fun _ _ h => h) (Or.inl (Or.inl ⟨by rfl, ?_⟩)) hSd ?_
  rotate_left
  · intro W hSw; (try dsimp only at hSw); first | (go_simp; done) | (go_simp; with_reducible rfl)
  try simp only [Act.put, List.setIfInBounds_toArray, List.set_cons_zero, List.set_cons_succ]
  refine wpAnyD_take (i := 4) (oi := ⟨_, _, _, _, _, _⟩) (v := ?_) rfl (by kernel_rfl) (by kernel_rfl) (by kernel_rfl) (by kernel_rfl) (fun _ _ _ h => h) (fun _ _ h => h) (Or.inl (Or.inl ⟨by rfl, ?_⟩)) hSd ?_
  rotate_left
  · intro W hSw; (try dsimp only at hSw); first | (go_simp; done) | (go_simp; with_reducible rfl)
  try simp only [Act.put, List.setIfInBounds_toArray, List.set_cons_zero, List.set_cons_succ]
  refine wpAnyD_take (i := 5) (oi := ⟨_, _, _, _, _, _⟩) (v := ?_) rfl (by kernel_rfl) (by kernel_rfl) (by kernel_rfl) (by kernel_rfl) (fun _ _ _ h => h) (fun _ _ h => h) (Or.inl (Or.inl ⟨by rfl, ?_⟩)) hSd ?_
  rotate_left
  · intro W hSw; (try dsimp only at hSw); first | (go_simp; done) | (go_simp; with_reducible rfl)
  try simp only [Act.put, List.setIfInBounds_toArray, List.set_cons_zero, List.set_cons_succ]
  clear hSd
  refine wpAnyD_one (i := 6) (o := ⟨_, _, _, _, _, _⟩) (by kernel_rfl) (by decide) rfl (fun n K hK0 => ?_)
  have hK := Lib.hid hK0
  clear hK0
  have F8 : Hid (Far (fun k => k = bf ∨ k = X.bn) w7 (w7.drew.drewN n)) := Lib.hid ((Far.drewN _ w7 1).trans (Far.drewN _ _ n))
  have E8 : Hid (∀ q : Nat, (w7.drew.drewN n).heap[q]? = w7.heap[q]?) := Lib.hid (fun _ => rfl)
  generalize w7.drew.drewN n = w8 at *
  go_simp
  refine any_step (fun w9 hN => ?_)
  have SR0 : Hid (w9.heap[w8.heap.size]? = some (.cells #[.string ⟨a.gone.toArray⟩, .string ⟨a.come.toArray⟩, acP X.fb a] 101 (0, 0))) := Lib.hid (by rw [hN]; exact new_five w8 _ _)
  have F9 : Hid (Far (fun k => k = bf ∨ k = X.bn) w8 w9) := Lib.hid (by rw [hN]; exact Far.alloc _ _ _)
  have hz9 := F7.out.size
  have hz98 := F8.out.size
  have hz99 := F9.out.size
  have E9 : Hid (∀ q : Nat, q < w7.heap.size → w9.heap[q]? = w7.heap[q]?) := Lib.hid (fun q hq => by rw [hN, Below.heap_alloc _ _ _ (by omega)]; exact E8.out q)
  clear hN
  refine hK.out _ _ (HS7.out w9 (E9.out _ (by omega)) (E9.out _ (by omega))) ?_
  clear hK K
  try simp only [Act.put, List.setIfInBounds_toArray, List.set_cons_zero, List.set_cons_succ]
  refine wpAnyD_one (i := 7) (o := ⟨_, _, _, _, _, _⟩) (by kernel_rfl) (by decide) rfl (fun n K hK0 => ?_)
  have hK := Lib.hid hK0
  clear hK0
  have hal := HAL.out
  have SRC : Hid (Src Tryd.prog 3 68 (.slice (some ⟨w8.heap.size, 0, none⟩) 1 1) 1 [.string ⟨a.gone.toArray⟩, .string ⟨a.come.toArray⟩, acP X.fb a] (w9.drewN n)) := Lib.hid (srcA_at (w9.drewN n) _ _ _ _ (acP_one _ _) SR0.out)
  have HRL : Hid (∀ q, (Value.slice sa s.acts.length sc').ownBlock = some q → B ≤ q ∧ q < nb ∧ q ≠ bf ∧ q ≠ X.bn) := Lib.hid (fun q hq => by
    have h1 := hlen.out q (by rw [HVA.out]; exact hq)
    have h2 := HRB.out q (by rw [HVA.out]; exact hq)
    have h3 := HNB.out
    exact ⟨h1.1, by omega, h2.1, h2.2⟩)
  have OW : Hid ((w9.drewN n).ownsRow B 101 3 (.slice sa s.acts.length sc') s.acts.length (acsV X.fb s.acts)) := Lib.hid (row_kept HROW1.out (fun q hq => by
    obtain ⟨_, h2, h3, h4⟩ := HRL.out q hq
    exact (E9.out q (by omega)).trans (F7.out.block q (by omega) (by rintro (e | e) <;> omega))))
  refine step_own_src _ rfl _ _ 68 68 (by rfl) B 101 j0 (.agg #[.string ByteArray.empty, .string ByteArray.empty, .pointer none]) 3 40 Tryd.underlying68 hj hy0 hy1 hy2 rfl (by decide) _ _ _ (by rfl) OW.out _ _ _ (by rfl) SRC.out (by unfold maxLen; omega) (by omega) (show B ≤ w9.heap.size from by omega) ?_
  intro v' w10 hown10 hg10
  have F10 : Hid (Far (fun k => k = bf ∨ k = X.bn ∨ (Value.slice sa s.acts.length sc').ownBlock = some k) w1 w10) := Lib.hid ((((F7.out.trans (F8.out.trans F9.out)).mono (fun k hk => hk.elim Or.inl (fun e => Or.inr (Or.inl e)))).trans (Far.drewN _ w9 n)).trans (Far.grew hg10 (fun k hk => Or.inr (Or.inr hk))))
  have HOWN : Hid (∀ k, v'.ownBlock = some k → (Value.slice sa s.acts.length sc').ownBlock = some k ∨ w9.heap.size ≤ k) := Lib.hid (fun k hk => hg10.own k hk)
  have HO10 := Lib.hid hown10
  have E10 : Hid (∀ q : Nat, q < w7.heap.size → (Value.slice sa s.acts.length sc').ownBlock ≠ some q → w10.heap[q]? = w7.heap[q]?) := Lib.hid (fun q hq hn => (hg10.gb.block q (by show q < w9.heap.size; omega) (fun e => hn e.symm)).trans (E9.out q hq))
  have hz10 : w9.heap.size ≤ w10.heap.size := hg10.gb.size
  clear hown10 hg10 SRC OW SR0
  refine hK.out _ _ (HS7.out w10 (E10.out _ (by omega) (fun e => (HRL.out _ e).2.2.1 rfl)) (E10.out _ (by omega) (fun e => by have := (HRL.out _ e).2.1; omega))) ?_
  clear hK K
  try simp only [Act.put, List.setIfInBounds_toArray, List.set_cons_zero, List.set_cons_succ]
  have hSd := HS7.out w10 (E10.out _ (by omega) (fun e => (HRL.out _ e).2.2.1 rfl)) (E10.out _ (by omega) (fun e => by have := (HRL.out _ e).2.1; omega))
  refine wpAnyD_take (i := 8) (oi := ⟨_, _, _, _, _, _⟩) (v := ?_) rfl (by kernel_rfl) (by kernel_rfl) (by kernel_rfl) (by kernel_rfl) (fun _ _ _ h => h) (fun _ _ h => h) (Or.inl (Or.inl ⟨by rfl, ?_⟩)) hSd ?_
  rotate_left
  · intro W hSw; (try dsimp only at hSw); first | (go_simp; done) | (go_simp; with_reducible rfl)
  try simp only [Act.put, List.setIfInBounds_toArray, List.set_cons_zero, List.set_cons_succ]
  refine wpAnyD_take (i := 9) (oi := ⟨_, _, _, _, _, _⟩) (v := ?_) rfl (by kernel_rfl) (by kernel_rfl) (by kernel_rfl) (by kernel_rfl) (fun _ _ _ h => h) (fun _ _ h => h) (Or.inl (Or.inl ⟨by rfl, ?_⟩)) hSd ?_
  rotate_left
  · intro W hSw; (try dsimp only at hSw); first | (go_simp; done) | (go_simp; with_reducible rfl)
  try simp only [Act.put, List.setIfInBounds_toArray, List.set_cons_zero, List.set_cons_succ]
  clear hSd
  refine wpAnyD_last (by kernel_rfl) (fun nd => ?_)
  refine wpOp_one rfl (by rfl) ?_
  have HBA : Hid ((w10.drewN nd).heap[bf]? = some (.cells #[.int .i64 (s.room : Int), .int .i64 ((u : Int) - ((sg : Int) + (sc : Int)) + (sd : Int)), .map (some X.bn), .map (some X.bd), .slice sa s.acts.length sc', .int .i64 (stV (tick s)), .int .i64 (tick s).more] 70 (0, 0))) := Lib.hid ((E10.out _ (by omega) (fun e => (HRL.out _ e).2.2.1 rfl)).trans HB7.out)
  have EA : Hid (∀ q : Nat, (w10.drewN nd).heap[q]? = w10.heap[q]?) := Lib.hid (fun _ => rfl)
  have ZA : Hid ((w10.drewN nd).heap.size = w10.heap.size) := Lib.hid rfl
  have PA : Hid ((w10.drewN nd).os = w10.os ∧ (w10.drewN nd).tape = w10.tape ∧ (w10.drewN nd).output = w10.output) := Lib.hid ⟨rfl, rfl, rfl⟩
  generalize w10.drewN nd = wa at *
  have ca : wa.cell? ⟨bf, 4, none⟩ = some (.slice sa s.acts.length sc') := (cell_of_row _ _ _ _ _ _ HBA.out).trans rfl
  have fa : wa.frozen? ⟨bf, 4, none⟩ = false := by unfold World.frozen?; rw [HBA.out]; simp
  have hvs : ∃ xa xc, v' = .slice xa (s.acts.length + 1) xc := by
    rcases HO10.out.2 with ⟨e1, e2⟩ | ⟨g, cap, cur, e1, _⟩
    · omega
    · exact ⟨_, _, e1⟩
  obtain ⟨xa, xc, rfl⟩ := hvs
  go_simp
  go_wp2_with fail
  go_ret
  have FA := F10.out.trans (⟨PA.out.1, PA.out.2.1, PA.out.2.2, Nat.le_of_eq ZA.out.symm, fun k _ _ => EA.out k⟩ : Far (fun k => k = bf ∨ k = X.bn ∨ (Value.slice sa s.acts.length sc').ownBlock = some k) w10 wa)
  have FF := FA.trans (Far.alone (P := fun k => k = bf ∨ k = X.bn ∨ (Value.slice sa s.acts.length sc').ownBlock = some k) (Alone.set bf 4 wa (.slice xa (s.acts.length + 1) xc)) (Or.inl rfl))
  have hset : ∀ k, k ≠ bf → (wa.setCell ⟨bf, 4, none⟩ (.slice xa (s.acts.length + 1) xc)).heap[k]? = w10.heap[k]? := fun k hk => (Below.heap_setCell wa _ _ k hk).trans (EA.out k)
  have hTne : ∀ k, X.T k ≠ .fs → X.T k ≠ .now → X.T k ≠ .row → ¬ (k = bf ∨ k = X.bn ∨ (Value.slice sa s.acts.length sc').ownBlock = some k) := fun k h1 h2 h3 e => by
    rcases e with e | e | e
    · exact h1 (by rw [e]; exact H1.out.tf)
    · exact h2 (by rw [e]; exact H1.out.tn)
    · exact h3 (H1.out.tr k (by rw [HVA.out]; exact e))
  have hz0 := AL1.out.size
  have hnbw := HNB.out
  obtain ⟨X', q1, _, q3⟩ := chg_fin (va' := .slice xa (s.acts.length + 1) xc) (D' := D5) (a := a) H1.out FF.size (fun k hk h1 h2 h3 => FF.block k hk (hTne k h1 h2 h3)) (by
      rw [cells_set HBA.out _, HU2.out]
      have e : ((u - (sg + sc) + sd : Nat) : Int) = (u : Int) - ((sg : Int) + (sc : Int)) + (sd : Int) := by omega
      rw [e]; rfl)
    (M7.out.kept ((hset _ hbn).trans (E10.out _ (by omega) (fun e => (HRL.out _ e).2.2.2 rfl))))
    (row_kept HO10.out (fun k hk => hset k (fun e => by
      rcases HOWN.out k hk with h1 | h1
      · exact (HRL.out k h1).2.2.1 e
      · omega)))
    (fun k hk => by
      rcases HOWN.out k hk with h1 | h1
      · left; rw [HVA.out]; exact h1
      · right; have := F9.out.size; have := F8.out.size; have := F7.out.size; omega)
    (fun i hi => ⟨(HF1.out i hi).tb, (HF1.out i hi).tv, (HF1.out i hi).blk, (HF1.out i hi).row⟩) (Nat.succ_le_succ HNN.out) (Nat.succ_le_succ HDD.out)
  refine ⟨rfl, X', q1, ⟨?_, fun k hk ht => ?_, fun k hk => ?_⟩⟩
  · refine ((b0.out.mono HB.out).trans (AL1.out.below hbfw.1 (by omega))).trans (FF.below (fun k e => ?_) (by omega))
    rcases e with e | e | e
    · rw [e]; exact hbfw.1
    · rw [e]; exact hbnl.1
    · exact (HRL.out k e).1
  · have hk0 : k ≠ bf := fun e => by rw [e, H1.out.tf] at ht; cases ht
    rw [FF.block k (by omega) (hTne k (by rw [ht]; exact fun c => by cases c) (by rw [ht]; exact fun c => by cases c) (by rw [ht]; exact fun c => by cases c)), AL1.out.block k (by omega) hk0, b0.out.block k hk]
  · rcases q3 k hk with h1 | h1
    · exact Or.inl h1
    · right; omega
end Go.Proofs.YtgknihcpmpfocaaDoor
namespace Go.Proofs.YtgknihcpmpfocaaDoor
open Go.RowKit Go.Maps
def putF (s : Fs) (i : Nat) (f : Fi) : Fs := { s with files := s.files.set i f }
def newF (s : Fs) : Fs := { s with files := s.files ++ [noFi] }
theorem FsOk.tick {s : Fs} (ok : FsOk s) : FsOk (tick s) := by
  have h1 := ok.cnt
  have h3 := ok.lo
  have h4 := ok.hi
  refine ⟨ok.eq, ok.dirs, ok.acts, ok.dat, Nat.le_trans h1 (Nat.le_succ _), ok.room, ?_, ?_⟩
  · show _ ≤ (if 0 < s.more then s.more - 1 else s.more); split <;> omega
  · show (if 0 < s.more then s.more - 1 else s.more) ≤ _; split <;> omega
theorem FsOk.stop {s : Fs} (ok : FsOk s) {n : Int} (h : -9223372036854775808 ≤ n ∧ n ≤ 9223372036854775807) : FsOk { s with more := n } := ⟨ok.eq, ok.dirs, ok.acts, ok.dat, ok.cnt, ok.room, h.1, h.2⟩
theorem FsOk.putF {s : Fs} (ok : FsOk s) {i : Nat} {f : Fi} (h : f.dur ≤ f.data.length ∧ f.data.length ≤ 4194304) : FsOk (putF s i f) := by
  have hl : (s.files.set i f).length = s.files.length := List.length_set
  refine ⟨ok.eq, fun k hk => ?_, fun a ha => ?_, fun g hg => ?_, ok.cnt, ok.room, ok.lo, ok.hi⟩
  · show DirOk (s.files.set i f).length _; rw [hl]; exact ok.dirs k hk
  · show (∀ j, a.file = some j → j < (s.files.set i f).length) ∧ _; rw [hl]; exact ok.acts a ha
  · rcases List.mem_or_eq_of_mem_set hg with h1 | h1
    · exact ok.dat g h1
    · rw [h1]; exact h
theorem FsOk.chg {t : Fs} (ok : FsOk t) {a : Ac} (hd : DirOk t.files.length (doA t.now a)) (ha : (∀ i, a.file = some i → i < t.files.length) ∧ a.gone.length ≤ 255 ∧ a.come.length ≤ 255) (hc : t.sure.length + t.acts.length + 1 ≤ t.steps) : FsOk (chg t a) := by
  refine ⟨?_, fun k hk => ?_, fun b hb => ?_, ok.dat, ?_, ok.room, ok.lo, ok.hi⟩
  · show doA t.now a = doAll t.sure (t.acts ++ [a])
    rw [doAll_snoc, ← ok.eq]
  · have hk2 : k ≤ t.acts.length + 1 := by have : k ≤ (t.acts ++ [a]).length := hk; simpa using this
    show DirOk t.files.length (doAll t.sure ((t.acts ++ [a]).take k))
    by_cases h1 : k ≤ t.acts.length
    · rw [List.take_append_of_le_length h1]; exact ok.dirs k h1
    · rw [List.take_of_length_le (by rw [List.length_append, List.length_singleton]; omega), doAll_snoc, ← ok.eq]; exact hd
  · rcases List.mem_append.1 hb with h1 | h1
    · exact ok.acts b h1
    · rw [List.mem_singleton.1 h1]; exact ha
  · show t.sure.length + (t.acts ++ [a]).length ≤ t.steps
    rw [List.length_append, List.length_singleton]; omega
theorem check_yes {p : List UInt8} (h : checkN p = 0) : p ≠ [] ∧ p.length ≤ 255 := by
  unfold checkN at h
  by_cases h1 : 255 < p.length ∨ 16 < (namesL p).length
  · rw [if_pos h1] at h; omega
  · rw [if_neg h1] at h
    by_cases h2 : p = [] ∨ (namesL p).all nameB = false
    · rw [if_pos h2] at h; omega
    · exact ⟨fun e => h2 (Or.inl e), by omega⟩
theorem FsOk.newF {s : Fs} (ok : FsOk s) : FsOk (newF s) := by
  have hl : (s.files ++ [noFi]).length = s.files.length + 1 := by simp
  refine ⟨ok.eq, fun k hk => ?_, fun a ha => ?_, fun g hg => ?_, ok.cnt, ok.room, ok.lo, ok.hi⟩
  · exact (ok.dirs k hk).mono (by show _ ≤ (s.files ++ [noFi]).length; omega)
  · exact ⟨fun i hi => by have := (ok.acts a ha).1 i hi; show i < (s.files ++ [noFi]).length; omega, (ok.acts a ha).2⟩
  · rcases List.mem_append.1 hg with h1 | h1
    · exact ok.dat g h1
    · rw [List.mem_singleton.1 h1]; exact ⟨Nat.le_refl _, Nat.zero_le _⟩
theorem FsOk.create {s : Fs} (ok : FsOk s) {x : Nm} (hx : checkN x = 0) : FsOk (Go.Proofs.YtgknihcpmpfocaaDoor.chg (Go.Proofs.YtgknihcpmpfocaaDoor.tick (Go.Proofs.YtgknihcpmpfocaaDoor.newF s)) ⟨[], x, some s.files.length⟩) := by
  obtain ⟨hne, hl⟩ := check_yes hx
  have hc := ok.cnt
  have ok1 : FsOk (Go.Proofs.YtgknihcpmpfocaaDoor.tick (Go.Proofs.YtgknihcpmpfocaaDoor.newF s)) := ok.newF.tick
  refine ok1.chg ?_ ⟨fun i hi => ?_, Nat.zero_le _, hl⟩ (by show s.sure.length + s.acts.length + 1 ≤ s.steps + 1; omega)
  · refine DirOk.some (i := s.files.length) ok1.nowOk rfl (by show _ < (s.files ++ [noFi]).length; simp) ⟨hne, hl⟩ (fun p hp e => ?_)
    have := ok.nowOk.lt p hp
    omega
  · injection hi with hi
    subst hi
    show _ < (s.files ++ [noFi]).length; simp
theorem FsOk.rename {s : Fs} (ok : FsOk s) {x y : Nm} {i : Nat} (hx : fnd s.now x = some i) (hy : checkN y = 0) : FsOk (Go.Proofs.YtgknihcpmpfocaaDoor.chg (Go.Proofs.YtgknihcpmpfocaaDoor.tick s) ⟨x, y, some i⟩) := by
  obtain ⟨hne, hl⟩ := check_yes hy
  have hc := ok.cnt
  have hm := fnd_mem hx
  have hi := ok.nowOk.lt _ hm
  refine ok.tick.chg ?_ ⟨fun j hj => ?_, (ok.nowOk.nm _ hm).2, hl⟩ (by show s.sure.length + s.acts.length + 1 ≤ s.steps + 1; omega)
  · exact DirOk.some (i := i) ok.nowOk rfl hi ⟨hne, hl⟩ (fun p hp e => by rw [ok.nowOk.inj p hp _ hm e])
  · injection hj with hj
    subst hj; exact hi
theorem FsOk.remove {s : Fs} (ok : FsOk s) {x : Nm} {i : Nat} (hx : fnd s.now x = some i) : FsOk (Go.Proofs.YtgknihcpmpfocaaDoor.chg (Go.Proofs.YtgknihcpmpfocaaDoor.tick s) ⟨x, [], none⟩) := by
  have hc := ok.cnt
  have hm := fnd_mem hx
  exact ok.tick.chg (DirOk.none ok.nowOk rfl) ⟨fun j hj => (by cases hj), (ok.nowOk.nm _ hm).2, Nat.zero_le _⟩ (by show s.sure.length + s.acts.length + 1 ≤ s.steps + 1; omega)
theorem no_empty {s : Fs} (ok : FsOk s) : fnd s.now [] = none := fnd_none.2 (fun p hp e => (ok.nowOk.nm p hp).1 e)
/-- The flags of blocks with one more file. -/
def withFile (X : FsX) (n nb : Nat) : FsX := { X with T := fun k => if k = nb then .file n else X.T k, fb := fun j => if j = n then nb else X.fb j, dv := fun j => if j = n then .slice none 0 0 else X.dv j }
theorem mapAt_fb {w : World} {b m : Nat} {D : DataW Unit} {fb fb' : Nat → Nat} {l : Dir} (h : MapAt w b m D fb l) (he : ∀ p ∈ l, fb' p.2 = fb p.2) : MapAt w b m D fb' l := by
  refine ⟨h.own, h.tidy, fun x z => ?_⟩
  rw [h.at_ x z]
  unfold fndB
  cases hf : fnd l x with
  | none => rfl
  | some i => show _ = DataW.lit (.int .i64 ((fb' i : Nat) : Int)); rw [he _ (fnd_mem hf)]
theorem acsV_fb {fb fb' : Nat → Nat} {l : List Ac} (he : ∀ a ∈ l, ∀ i, a.file = some i → fb' i = fb i) : acsV fb' l = acsV fb l := by
  unfold acsV
  congr 1
  refine List.map_congr_left (fun a ha => ?_)
  unfold acV acP
  cases hf : a.file with
  | none => rfl
  | some i => simp [he a ha i hf]
theorem FsAt.newFile {B : Nat} {X : FsX} {w : World} {bf nb : Nat} {s : Fs} (h : FsAt B X w bf s) (ok : FsOk s) (hT : X.T nb = .no) (hB : B ≤ nb) (hlt : nb < w.heap.size)
    (hb : w.heap[nb]? = some (.cells #[.slice none 0 0, .int .i64 0] 84 (0, 0))) : FsAt B (withFile X s.files.length nb) w bf (newF s) ∧ FileOk B (withFile X s.files.length nb) w (newF s) s.files.length := by
  have hne : ∀ k, X.T k ≠ .no → k ≠ nb := fun k hk e => hk (by rw [e]; exact hT)
  have hTk : ∀ k, X.T k ≠ .no → (if k = nb then Role.file s.files.length else X.T k) = X.T k := fun k hk => if_neg (hne k hk)
  have hg : ∀ i, i < s.files.length → (s.files ++ [noFi]).getD i noFi = s.files.getD i noFi := fun i hi => by simp [List.getD, List.getElem?_append_left hi]
  have hgn : (s.files ++ [noFi]).getD s.files.length noFi = noFi := by simp [List.getD]
  have hu : used (newF s) = used s := usedD_congr (fun p hp => by
    show ((s.files ++ [noFi]).getD p.2 noFi).data.length = _
    rw [hg _ (ok.nowOk.lt p hp)])
  have hfb : ∀ i, i < s.files.length → (if i = s.files.length then nb else X.fb i) = X.fb i := fun i hi => if_neg (by omega)
  refine ⟨⟨fun k hk => ?_, ?_, ?_, ?_, fun k e => ?_, ?_, ?_, ?_, h.hn, h.hd, ?_, fun i hi => ?_⟩, ⟨?_, fun k e => ?_, ?_, ?_⟩⟩
  · by_cases e : k = nb
    · rw [e]; exact ⟨hB, hlt⟩
    · refine h.dom k (fun c => hk ?_)
      show (if k = nb then Role.file s.files.length else X.T k) = .no
      rw [if_neg e]; exact c
  · show (if bf = nb then Role.file s.files.length else X.T bf) = _
    rw [hTk bf (by rw [h.tf]; exact fun c => by cases c), h.tf]
  · show (if X.bn = nb then Role.file s.files.length else X.T X.bn) = _
    rw [hTk _ (by rw [h.tn]; exact fun c => by cases c), h.tn]
  · show (if X.bd = nb then Role.file s.files.length else X.T X.bd) = _
    rw [hTk _ (by rw [h.td]; exact fun c => by cases c), h.td]
  · have h1 := h.tr k e
    show (if k = nb then Role.file s.files.length else X.T k) = _
    rw [hTk k (by rw [h1]; exact fun c => by cases c), h1]
  · rw [h.blk]
    unfold fsRow
    rw [hu]; rfl
  · exact mapAt_fb h.mn (fun p hp => hfb _ (ok.nowOk.lt p hp))
  · exact mapAt_fb h.md (fun p hp => hfb _ (ok.sureOk.lt p hp))
  · show w.ownsRow B 101 3 X.va s.acts.length (acsV (fun j => if j = s.files.length then nb else X.fb j) s.acts)
    rw [acsV_fb (fun a ha i hi => hfb i ((ok.acts a ha).1 i hi))]
    exact h.row
  · have hl : Live s i := hi
    have hlt2 := ok.live_lt hl
    have hf := h.fil i hl
    have hni : ¬ i = s.files.length := by omega
    refine ⟨?_, fun k e => ?_, ?_, ?_⟩
    · show (if (if i = s.files.length then nb else X.fb i) = nb then Role.file s.files.length else X.T (if i = s.files.length then nb else X.fb i)) = _
      rw [if_neg hni, hTk _ (by rw [hf.tb]; exact fun c => by cases c), hf.tb]
    · have e2 : (if i = s.files.length then Value.slice none 0 0 else X.dv i).ownBlock = some k := e
      rw [if_neg hni] at e2
      have h1 := hf.tv k e2
      show (if k = nb then Role.file s.files.length else X.T k) = _
      rw [hTk k (by rw [h1]; exact fun c => by cases c), h1]
    · show w.heap[if i = s.files.length then nb else X.fb i]? = some (.cells #[if i = s.files.length then Value.slice none 0 0 else X.dv i, .int .i64 (((s.files ++ [noFi]).getD i noFi).dur : Int)] 84 (0, 0))
      rw [if_neg hni, if_neg hni, hg i hlt2]; exact hf.blk
    · show RowM w B (if i = s.files.length then Value.slice none 0 0 else X.dv i) (bv ((s.files ++ [noFi]).getD i noFi).data)
      rw [if_neg hni, hg i hlt2]; exact hf.row
  · show (if (if s.files.length = s.files.length then nb else X.fb s.files.length) = nb then Role.file s.files.length else _) = _
    rw [if_pos rfl, if_pos rfl]
  · have e2 : (if s.files.length = s.files.length then Value.slice none 0 0 else X.dv s.files.length).ownBlock = some k := e
    rw [if_pos rfl] at e2
    simp [Value.ownBlock] at e2
  · show w.heap[if s.files.length = s.files.length then nb else X.fb s.files.length]? = some (.cells #[if s.files.length = s.files.length then Value.slice none 0 0 else X.dv s.files.length, .int .i64 (((s.files ++ [noFi]).getD s.files.length noFi).dur : Int)] 84 (0, 0))
    rw [if_pos rfl, if_pos rfl, hgn]; exact hb
  · show RowM w B (if s.files.length = s.files.length then Value.slice none 0 0 else X.dv s.files.length) (bv ((s.files ++ [noFi]).getD s.files.length noFi).data)
    rw [if_pos rfl, hgn]; exact Or.inl ⟨rfl, rfl⟩
/-- A file's bytes made others. -/
theorem FsAt.putFile {B : Nat} {X : FsX} {w wF : World} {bf : Nat} {t : Fs} {i : Nat} {f : Fi} {v' : Value} (h : FsAt B X w bf t) (hi : Live t i) (hil : i < t.files.length) (hz : w.heap.size ≤ wF.heap.size)
    (hK : ∀ k, k < w.heap.size → X.T k ≠ .fs → X.T k ≠ .file i → X.T k ≠ .data i → wF.heap[k]? = w.heap[k]?)
    (hblk : wF.heap[bf]? = some (.cells (fsRow X (putF t i f)) 70 (0, 0)))
    (hfb : wF.heap[X.fb i]? = some (.cells #[v', .int .i64 (f.dur : Int)] 84 (0, 0))) (hrow : RowM wF B v' (bv f.data))
    (hown : ∀ k, v'.ownBlock = some k → (X.dv i).ownBlock = some k ∨ (w.heap.size ≤ k ∧ k < wF.heap.size ∧ B ≤ k)) :
    ∃ X', FsAt B X' wF bf (putF t i f) ∧ X'.fb = X.fb ∧ ∀ k, X'.T k ≠ .no → X.T k ≠ .no ∨ w.heap.size ≤ k := by
  have hfi := h.fil i hi
  have hlt : ∀ k, X.T k ≠ .no → k < w.heap.size := fun k ht => (h.dom k ht).2
  have hT : ∀ k, k < w.heap.size → X.T k ≠ .data i → (if v'.ownBlock = some k then Role.data i else X.T k) = X.T k := fun k hk ht => by
    rw [if_neg (fun e => ?_)]
    rcases hown k e with h1 | h1
    · exact ht (hfi.tv k h1)
    · omega
  have key : ∀ k r, X.T k = r → r ≠ .no → r ≠ .data i → (if v'.ownBlock = some k then Role.data i else X.T k) = r := fun k r e h1 h2 => by
    rw [hT k (hlt k (by rw [e]; exact h1)) (by rw [e]; exact h2), e]
  refine ⟨{ X with T := fun k => if v'.ownBlock = some k then .data i else X.T k, dv := fun j => if j = i then v' else X.dv j }, ⟨fun k ht => ?_, key _ _ h.tf (fun c => by cases c) (fun c => by cases c), key _ _ h.tn (fun c => by cases c) (fun c => by cases c), key _ _ h.td (fun c => by cases c) (fun c => by cases c), fun k e => key _ _ (h.tr k e) (fun c => by cases c) (fun c => by cases c), hblk, ?_, ?_, h.hn, h.hd, ?_, fun j hj => ?_⟩, rfl, fun k ht => ?_⟩
  · by_cases e : v'.ownBlock = some k
    · rcases hown k e with h1 | h1
      · have := h.dom k (by rw [hfi.tv k h1]; exact fun c => by cases c)
        exact ⟨this.1, Nat.lt_of_lt_of_le this.2 hz⟩
      · exact ⟨h1.2.2, h1.2.1⟩
    · have ht2 : X.T k ≠ .no := fun c => ht (by show (if v'.ownBlock = some k then Role.data i else X.T k) = _; rw [if_neg e]; exact c)
      exact ⟨(h.dom k ht2).1, Nat.lt_of_lt_of_le (h.dom k ht2).2 hz⟩
  · exact h.mn.kept (hK _ (hlt _ (by rw [h.tn]; exact fun c => by cases c)) (by rw [h.tn]; exact fun c => by cases c) (by rw [h.tn]; exact fun c => by cases c) (by rw [h.tn]; exact fun c => by cases c))
  · exact h.md.kept (hK _ (hlt _ (by rw [h.td]; exact fun c => by cases c)) (by rw [h.td]; exact fun c => by cases c) (by rw [h.td]; exact fun c => by cases c) (by rw [h.td]; exact fun c => by cases c))
  · exact row_kept h.row (fun k e => hK k (hlt k (by rw [h.tr k e]; exact fun c => by cases c)) (by rw [h.tr k e]; exact fun c => by cases c) (by rw [h.tr k e]; exact fun c => by cases c) (by rw [h.tr k e]; exact fun c => by cases c))
  · by_cases e : j = i
    · subst e
      refine ⟨key _ _ hfi.tb (fun c => by cases c) (fun c => by cases c), fun k e => ?_, ?_, ?_⟩
      · have e2 : (if j = j then v' else X.dv j).ownBlock = some k := e
        rw [if_pos rfl] at e2
        show (if v'.ownBlock = some k then Role.data j else X.T k) = _
        rw [if_pos e2]
      · show wF.heap[X.fb j]? = some (.cells #[if j = j then v' else X.dv j, .int .i64 (((t.files.set j f).getD j noFi).dur : Int)] 84 (0, 0))
        rw [if_pos rfl, getD_set hil, if_pos rfl]; exact hfb
      · show RowM wF B (if j = j then v' else X.dv j) (bv ((t.files.set j f).getD j noFi).data)
        rw [if_pos rfl, getD_set hil, if_pos rfl]; exact hrow
    · have hj2 : Live t j := hj
      have hf := h.fil j hj2
      have hk := hf.kept (w' := wF) (fun k e2 => hK k (hlt k (by rcases e2 with e2 | e2 <;> rw [e2] <;> exact fun c => by cases c)) (by rcases e2 with e2 | e2 <;> rw [e2] <;> exact fun c => by cases c) (by rcases e2 with e2 | e2 <;> rw [e2] <;> (intro c; first | (cases c; done) | (cases c; exact e rfl))) (by rcases e2 with e2 | e2 <;> rw [e2] <;> (intro c; first | (cases c; done) | (cases c; exact e rfl)))) hz
      refine ⟨key _ _ hf.tb (fun c => by cases c) (fun c => by cases c), fun k e2 => ?_, ?_, ?_⟩
      · have e3 : (if j = i then v' else X.dv j).ownBlock = some k := e2
        rw [if_neg e] at e3
        exact key _ _ (hf.tv k e3) (fun c => by cases c) (fun c => by injection c with c; exact e c)
      · show wF.heap[X.fb j]? = some (.cells #[if j = i then v' else X.dv j, .int .i64 (((t.files.set i f).getD j noFi).dur : Int)] 84 (0, 0))
        rw [if_neg e, getD_set hil, if_neg e]; exact hk.blk
      · show RowM wF B (if j = i then v' else X.dv j) (bv ((t.files.set i f).getD j noFi).data)
        rw [if_neg e, getD_set hil, if_neg e]; exact hk.row
  · by_cases e : v'.ownBlock = some k
    · rcases hown k e with h1 | h1
      · left; rw [hfi.tv k h1]; exact fun c => by cases c
      · exact Or.inr h1.1
    · left
      intro c
      exact ht (by show (if v'.ownBlock = some k then Role.data i else X.T k) = _; rw [if_neg e]; exact c)
end Go.Proofs.YtgknihcpmpfocaaDoor
