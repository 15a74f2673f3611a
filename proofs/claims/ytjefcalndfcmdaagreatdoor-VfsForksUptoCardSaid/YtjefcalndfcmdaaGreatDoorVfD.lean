/- Names in memory: how many bytes the file of a name has; a change of names done. -/
import Derived.Test.YtjefcalndfcmdaaGreatDoorVfC
import Derived.Maps.OwnSet
namespace Go.Proofs.YtjefcalndfcmdaaGreatDoor
open Go.RowKit Go.Maps
theorem RowM.shape {w : World} {B : Nat} {v : Value} {xs : List Value} (h : RowM w B v xs) : ∃ a c, v = .slice a xs.length c := by
  rcases h with ⟨h0, h1⟩ | ⟨g, cap, h1, _⟩
  · subst h0; exact ⟨none, 0, h1⟩
  · exact ⟨_, _, h1⟩
theorem FileOk.shape {B : Nat} {X : FsX} {w : World} {s : Fs} {i : Nat} (h : FileOk B X w s i) : ∃ a c, X.dv i = .slice a (s.files.getD i noFi).data.length c := by
  have := h.row.shape
  rwa [bv_len] at this
theorem FileOk.cells {B : Nat} {X : FsX} {w : World} {s : Fs} {i : Nat} (h : FileOk B X w s i) : w.cell? ⟨X.fb i, 0, none⟩ = some (X.dv i) ∧ w.cell? ⟨X.fb i, 1, none⟩ = some (.int .i64 ((s.files.getD i noFi).dur : Int)) :=
  ⟨by rw [cell_of_row _ _ _ _ _ _ h.blk]; rfl, by rw [cell_of_row _ _ _ _ _ _ h.blk]; rfl⟩
theorem size_any {w : World} {b n : Nat} {D : DataW Unit} {fb : Nat → Nat} {l : Dir} {fs : List Fi} (hm : MapAt w b n D fb l) {x : Nm} (hx : x.length ≤ 4194304)
    (hf : ∀ i, fnd l x = some i → ∃ a c, w.cell? ⟨fb i, 0, none⟩ = some (.slice a (fs.getD i noFi).data.length c)) :
    Calls Tryz.prog 60 #[.map (some b), .string ⟨x.toArray⟩] w fun e w' => e = .returned (.int .i64 (sizeD fs l x : Int)) ∧ w = w' := by
  have hl := hm.look hx
  unfold fndV at hl
  unfold sizeD
  cases hi : fnd l x with
  | none =>
    rw [hi] at hl
    clear hm hf hi
    go_enter Tryz.func60, Tryz.ntmps60
    go_wp2_with fail
    go_ret
    exact ⟨rfl, rfl⟩
  | some i =>
    rw [hi] at hl
    obtain ⟨a, c, hc⟩ := hf i hi
    show Calls _ _ _ _ (fun e w' => e = .returned (.int .i64 ((fs.getD i noFi).data.length : Int)) ∧ w = w')
    generalize (fs.getD i noFi).data.length = m at *
    clear hm hf hi
    go_enter Tryz.func60, Tryz.ntmps60
    go_wp2_with fail
    go_ret
    exact ⟨rfl, rfl⟩
def DoneP (b n : Nat) (fb : Nat → Nat) (l : Dir) (w : World) (e : Ending) (w' : World) : Prop := e = .returned (.tuple #[]) ∧ ∃ D, MapAt w' b n D fb l ∧ Alone b w w'
theorem fndB_del {fb : Nat → Nat} {l : Dir} (hr : Rise l) {D : DataW Unit} (h : ∀ x z, D.atKey (.string x) z = fndB fb l x z) {a : Ac} (ha : a.file = none) (x : Nm) (z : DataW Unit) :
    (D.del (.string a.gone)).atKey (.string x) z = fndB fb (doA l a) x z := by
  unfold fndB
  rw [fnd_doA hr, ha]
  show _ = _
  by_cases e : x = a.gone
  · rw [e, atKey_del_same]; simp
  · rw [atKey_del_other (fun h2 => e (by injection h2)), h x z]
    simp only [e, if_false]
    rfl
theorem fndB_put {fb : Nat → Nat} {l : Dir} (hr : Rise l) {D : DataW Unit} (ht : Tidy D) (h : ∀ x z, D.atKey (.string x) z = fndB fb l x z) {a : Ac} {i : Nat} (ha : a.file = some i) (x : Nm) (z : DataW Unit) :
    ((D.del (.string a.gone)).put (.string a.come) (.lit (.int .i64 (fb i : Int)))).atKey (.string x) z = fndB fb (doA l a) x z := by
  have hm := (ht.del (.string a.gone)).isMap
  unfold fndB
  rw [fnd_doA hr, ha]
  by_cases e : x = a.come
  · rw [e, atKey_put_same hm (show WideAt.IsKeyLit (.string a.come) from trivial)]; simp
  · rw [atKey_put_other (fun h2 => e (by injection h2))]
    by_cases e2 : x = a.gone
    · rw [e2, atKey_del_same]
      have : ¬ a.gone = a.come := fun h3 => e (e2.trans h3)
      simp [this]
    · rw [atKey_del_other (fun h2 => e2 (by injection h2)), h x z]
      simp only [e, e2, if_false]
      rfl
/-- The box of a change, behind a call that writes block b alone. -/
theorem box_stays {w w1 : World} {b : Nat} {cs : Array Value} (hb : b < w.heap.size) (h : (w.alloc (.cells cs 83)).grownBy w1 (some b)) : w1.heap[w.heap.size]? = some (.cells cs 83 (0, 0)) :=
  (h.block w.heap.size (by simp) (fun e => by injection e with e; omega)).trans (new_five w cs 83)
set_option maxHeartbeats 1000000 in
theorem do_any {w : World} {b n : Nat} {D : DataW Unit} {fb : Nat → Nat} {l : Dir} (hm : MapAt w b n D fb l) (hr : Rise l) (hn : n ≤ 1099511627776) (a : Ac) (hg : a.gone.length ≤ 4194304) (hc : a.come.length ≤ 4194304) :
    Calls Tryz.prog 55 #[.map (some b), .agg (acV fb a).toArray] w (DoneP b (n + 1) fb (doA l a) w) := by
  have hown := Lib.hid (hm.own.alloc (.cells (acV fb a).toArray 83))
  have HT := Lib.hid hm.tidy
  have HA := Lib.hid hm.at_
  have HR := Lib.hid hr
  have hbl := hm.own.lt
  have hkg := key_of hg
  have hkc := key_of hc
  have A0 := Lib.hid (Alone.alloc b w (.cells (acV fb a).toArray 83))
  clear hm hr
  have hmx : n < maxLen := by unfold maxLen; omega
  clear hn
  obtain ⟨g, c, f⟩ := a
  cases f with
  | none =>
    unfold acV acP at hown A0 ⊢
    simp only [] at hown A0 hkg hkc ⊢
    go_enter Tryz.func55, Tryz.ntmps55
    go_wp2_with ((at_delete; refine wpList_delete_own _ rfl _ _ 59 9 rfl 75 keyLaw Tryz.underlying59 ptrR b n D rfl hown.out _ _ rfl hkg ?_; intro w1 hown1 hturn1; have O1 := Lib.hid hown1; have T1 := Lib.hid hturn1.grown; have hbx := box_stays hbl hturn1.grown; have q2 : w1.cell? ⟨w.heap.size, 2, none⟩ = some (.pointer none) := (cell_of_row _ _ _ _ _ _ hbx).trans rfl; clear hown1 hturn1 hbx))
    go_end0
    exact ⟨rfl, _, ⟨O1.out.mono (Nat.le_succ n), HT.out.del _, fun x z => fndB_del HR.out HA.out (a := ⟨g, c, none⟩) rfl x z⟩, A0.out.trans (Alone.of T1.out)⟩
  | some i =>
    unfold acV acP at hown A0 ⊢
    simp only [] at hown A0 hkg hkc ⊢
    go_enter Tryz.func55, Tryz.ntmps55
    go_wp2_with (first | (at_delete; refine wpList_delete_own _ rfl _ _ 59 9 rfl 75 keyLaw Tryz.underlying59 ptrR b n D rfl hown.out _ _ rfl hkg ?_; intro w1 hown1 hturn1; have O1 := Lib.hid hown1; have T1 := Lib.hid hturn1.grown; have hbx := box_stays hbl hturn1.grown; have q1 : w1.cell? ⟨w.heap.size, 1, none⟩ = some (.string ⟨c.toArray⟩) := (cell_of_row _ _ _ _ _ _ hbx).trans rfl; have q2 : w1.cell? ⟨w.heap.size, 2, none⟩ = some (.pointer (some ⟨fb i, 0, none⟩)) := (cell_of_row _ _ _ _ _ _ hbx).trans rfl; clear hown1 hturn1 hbx) | (at_mapUpdate; refine wpList_mapUpdate_own _ rfl _ _ _ 59 rfl 9 75 keyLaw Tryz.underlying59 ptrR b n _ rfl O1.out hmx _ _ _ rfl rfl hkc (.lit (.int .i64 (fb i : Int))) [] rfl ?_; intro w2 hown2 hgrow2; have O2 := Lib.hid hown2; have T2 := Lib.hid hgrow2; clear hown2 hgrow2; go_frame))
    go_end0
    exact ⟨rfl, _, ⟨O2.out, (HT.out.del _).put (show WideAt.IsKeyLit (.string c) from trivial) _, fun x z => fndB_put HR.out HT.out HA.out (a := ⟨g, c, some i⟩) rfl x z⟩, (A0.out.trans (Alone.of T1.out)).trans (Alone.of T2.out)⟩
end Go.Proofs.YtjefcalndfcmdaaGreatDoor
