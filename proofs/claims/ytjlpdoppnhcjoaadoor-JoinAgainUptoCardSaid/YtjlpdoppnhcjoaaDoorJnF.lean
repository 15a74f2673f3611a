/- What becomes of a path is decided. -/
import Derived.Test.YtjlpdoppnhcjoaaDoorJnE
namespace Go.Proofs.YtjlpdoppnhcjoaaDoor
open Go.RowKit Go.Lib
attribute [local simp high] files_size outcome_size id_size n135_ne n138_ne n32_ne n34_ne
theorem gbt {a b c : World} {row : Option Nat} (h : a.grownBy b row) (k : b.grownBy c row) : a.grownBy c row :=
  ⟨k.os.trans h.os, k.tape.trans h.tape, k.output.trans h.output, Nat.le_trans h.size k.size, fun i hi hne => (k.block i (Nat.lt_of_lt_of_le hi h.size) hne).trans (h.block i hi hne)⟩
theorem gbb {a w : World} (h : Below a.heap.size a w) (row : Option Nat) : a.grownBy w row := ⟨h.os, h.tape, h.output, h.size, fun i hi _ => h.block i hi⟩
theorem Only.gb {b : Nat} {w w' : World} (h : Only b w w') : w.grownBy w' (some b) := by
  have hb := h.bel b w (Below.refl _ _) (Nat.le_refl _)
  exact ⟨hb.os, hb.tape, hb.output, by rw [h.size]; exact Nat.le_refl _, fun i _ hne => h.far i (fun e => hne (by rw [e]))⟩
theorem gb_drew (w : World) (n : Nat) (row : Option Nat) : w.grownBy (w.drewN n) row := ⟨rfl, rfl, rfl, Nat.le_refl _, fun _ _ _ => rfl⟩
theorem store_float (w : World) (a : Addr) (x : Nat) {old : Value} (hc : w.cell? a = some old) (hf : w.frozen? a = false) : (store a (.float .f64 x)).run Tryd.prog w = .ok () (w.setCell a (.float .f64 x)) := by
  rw [run_store Tryd.prog w a _ _ rfl, hc]
  simp [hf]
/-- With the time. -/
def timed (o : OutN) (st : Nat → Nat) : OutN := { o with stamp := timeN o.has st }
theorem timed_alike (o : OutN) (st : Nat → Nat) (a b : Nat) : alikeB (timed o st) a b = alikeB o a b := rfl
/-- What is decided: as ours has it, as theirs has it, left to people, or a text of both. -/
def decN (o : OutN) : Nat := if (alikeB o 1 2 || alikeB o 0 2) = true then 0 else if alikeB o 0 1 = true then 1 else if (!o.has 1 || !o.has 2) = true then 2 else 3
/-- What decide answers; Q: what mix makes. -/
def DecP (Q : World → Int → World → Prop) (fb : Nat) (o : OutN) (st : Nat → Nat) (w : World) (e : Ending) (w' : World) : Prop :=
  (decN o = 0 ∧ e = .returned (.tuple #[.bool (o.has 1), .int .i64 0]) ∧ FAt w' fb { timed o st with kind := 1, id := (timed o st).ids 1 } st ∧ w.grownBy w' (some fb)) ∨
  (decN o = 1 ∧ e = .returned (.tuple #[.bool (o.has 2), .int .i64 0]) ∧ FAt w' fb { timed o st with kind := 1, id := (timed o st).ids 2 } st ∧ w.grownBy w' (some fb)) ∨
  (decN o = 2 ∧ e = .returned (.tuple #[.bool true, .int .i64 0]) ∧ FAt w' fb { timed o st with kind := 3 } st ∧ w.grownBy w' (some fb)) ∨
  (decN o = 3 ∧ ∃ c W, e = .returned (.tuple #[.bool true, .int .i64 c]) ∧ FAt W fb { timed o st with kind := 3 } st ∧ w.grownBy W (some fb) ∧ Q W c w')
set_option maxRecDepth 100000 in
set_option maxHeartbeats 8000000 in
theorem decide_any (Q : World → Int → World → Prop) (fb : Nat) (o : OutN) (st : Nat → Nat) (src : Value) (w : World) (h : FAt w fb o st) (hst : ∀ i, i < 3 → st i < 18446744073709551616)
    (HM : ∀ W, FAt W fb { timed o st with kind := 3 } st → w.grownBy W (some fb) → o.has 1 = true → o.has 2 = true → Calls Tryd.prog 42 #[.pointer (some ⟨fb, 0, none⟩), src] W fun e w' => ∃ c, e = .returned (.int .i64 c) ∧ Q W c w') :
    Calls Tryd.prog 25 #[.pointer (some ⟨fb, 0, none⟩), src] w (DecP Q fb o st w) := by
  have HT := Lib.hid (time_any fb o st w h hst)
  have H := Lib.hid h
  have hlt := h.lt
  have HMM := Lib.hid HM
  obtain ⟨x12, hx12⟩ : ∃ x, alikeB o 1 2 = x := ⟨_, rfl⟩
  obtain ⟨x02, hx02⟩ : ∃ x, alikeB o 0 2 = x := ⟨_, rfl⟩
  obtain ⟨x01, hx01⟩ : ∃ x, alikeB o 0 1 = x := ⟨_, rfl⟩
  have HDN : Hid (decN o = if (x12 || x02) = true then 0 else if x01 = true then 1 else if (!o.has 1 || !o.has 2) = true then 2 else 3) := Lib.hid (by unfold decN; rw [hx12, hx02, hx01])
  clear h hst HM
  go_enter Tryd.func25, Tryd.ntmps25
  go_wp2_with fail
  refine HT.out.mono ?_
  rintro e w1 ⟨rfl, hb1⟩
  have h1 : FAt w1 fb o st := H.out.kept (hb1.block fb hlt)
  have HG1 := Lib.hid (gbb hb1 (some fb))
  have s1 := h1.cell (k := 34) (by unfold n138; omega)
  have f1 := h1.free 34
  have HF : Hid (FAt (w1.setCell ⟨fb, 34, none⟩ (.float .f64 (timeN o.has st))) fb (timed o st) st) := Lib.hid (h1.setStamp (timeN o.has st))
  have HO := Lib.hid (Only.set fb 34 w1 (.float .f64 (timeN o.has st)))
  generalize filF o st 34 = old at *
  have hs : (store ⟨fb, 34, none⟩ (.float .f64 (timeN o.has st))).run Tryd.prog w1 = .ok () (w1.setCell ⟨fb, 34, none⟩ (.float .f64 (timeN o.has st))) := store_float w1 _ _ s1 f1
  clear h1 hb1 H hlt s1 f1
  go_upto_region 2 with fail
  clear hs
  generalize w1.setCell ⟨fb, 34, none⟩ (.float .f64 (timeN o.has st)) = w2 at *
  have HG2 : Hid (w.grownBy w2 (some fb)) := Lib.hid (gbt HG1.out HO.out.gb)
  have HA : Hid (Calls Tryd.prog 40 #[.pointer (some ⟨fb, 0, none⟩), .int .i64 1, .int .i64 2] w2 fun e w' => e = .returned (.bool x12) ∧ ∃ n, w' = w2.drewN n) := Lib.hid (by
    have h := alike_files fb _ st w2 HF.out 1 2 (by omega) (by omega)
    rw [timed_alike, hx12] at h
    exact h)
  have HC : Hid (∀ n, Calls Tryd.prog 40 #[.pointer (some ⟨fb, 0, none⟩), .int .i64 0, .int .i64 2] (w2.drewN n) fun e w' => e = .returned (.bool x02) ∧ ∃ m, w' = (w2.drewN n).drewN m) := Lib.hid (fun n => by
    have h := alike_files fb _ st (w2.drewN n) (HF.out.drew n) 0 2 (by omega) (by omega)
    rw [timed_alike, hx02] at h
    exact h)
  have HD : Hid (∀ n, Calls Tryd.prog 40 #[.pointer (some ⟨fb, 0, none⟩), .int .i64 0, .int .i64 1] (w2.drewN n) fun e w' => e = .returned (.bool x01) ∧ ∃ m, w' = (w2.drewN n).drewN m) := Lib.hid (fun n => by
    have h := alike_files fb _ st (w2.drewN n) (HF.out.drew n) 0 1 (by omega) (by omega)
    rw [timed_alike, hx01] at h
    exact h)
  have HK : Hid (∀ (n i : Nat), i < 3 → Calls Tryd.prog 41 #[.pointer (some ⟨fb, 0, none⟩), .int .i64 (i : Int)] (w2.drewN n) fun e w' => e = .returned (.bool (o.has i)) ∧ FAt w' fb { timed o st with kind := 1, id := (timed o st).ids i } st ∧ w.grownBy w' (some fb)) := Lib.hid (fun n i hi => by
    have h := keep_any fb (timed o st) st (w2.drewN n) (HF.out.drew n) i hi
    have e : (timed o st).has i = o.has i := rfl
    rw [e] at h
    refine h.mono ?_
    rintro e w' ⟨h1, h2, h3⟩
    exact ⟨h1, h2, gbt (gbt HG2.out (gb_drew _ _ _)) h3.gb⟩)
  clear HG1 HO HT hx12 hx02 hx01
  go_wp2_with fail
  refine HA.out.mono ?_
  rintro e w3 ⟨rfl, n3, rfl⟩
  cases x12
  · go_wp2_with fail
    refine (HC.out _).mono ?_
    rintro e w4 ⟨rfl, n4, rfl⟩
    cases x02
    · go_wp2_with fail
      refine (HD.out _).mono ?_
      rintro e w5 ⟨rfl, n5, rfl⟩
      cases x01
      · have h5 : FAt ((w2.drewN (n3 + n4)).drewN n5) fb (timed o st) st := (HF.out.drew _).drew _
        have HG5 : Hid (w.grownBy ((w2.drewN (n3 + n4)).drewN n5) (some fb)) := Lib.hid (gbt (gbt HG2.out (gb_drew _ _ _)) (gb_drew _ _ _))
        have s5 := h5.cell (k := 1) (by unfold n138; omega)
        have f5 := h5.free 1
        have HF6 : Hid (FAt (((w2.drewN (n3 + n4)).drewN n5).setCell ⟨fb, 1, none⟩ (.int .i64 3)) fb { timed o st with kind := 3 } st) := Lib.hid (h5.setKind 3)
        have HG6 : Hid (w.grownBy (((w2.drewN (n3 + n4)).drewN n5).setCell ⟨fb, 1, none⟩ (.int .i64 3)) (some fb)) := Lib.hid (gbt HG5.out (Only.set fb 1 _ _).gb)
        generalize filF (timed o st) st 1 = old at *
        clear h5 HG5 HF HG2 HK HC HD
        generalize (w2.drewN (n3 + n4)).drewN n5 = w6 at *
        go_upto_region 8 with fail
        clear s5 f5
        generalize w6.setCell ⟨fb, 1, none⟩ (.int .i64 3) = w7 at *
        have d1 : w7.cell? ⟨fb, 37, none⟩ = some (.bool (o.has 1)) := HF6.out.has (i := 1) (by omega)
        have d2 : w7.cell? ⟨fb, 38, none⟩ = some (.bool (o.has 2)) := HF6.out.has (i := 2) (by omega)
        obtain ⟨y1, hy1⟩ : ∃ x, o.has 1 = x := ⟨_, rfl⟩
        obtain ⟨y2, hy2⟩ : ∃ x, o.has 2 = x := ⟨_, rfl⟩
        rw [hy1] at d1 HDN
        rw [hy2] at d2 HDN
        have HY1 := Lib.hid hy1
        have HY2 := Lib.hid hy2
        clear hy1 hy2
        cases y1
        · go_wp2_with fail
          go_ret2
          exact Or.inr (Or.inr (Or.inl ⟨by rw [HDN.out]; rfl, rfl, HF6.out, HG6.out⟩))
        cases y2
        · go_wp2_with fail
          go_ret2
          exact Or.inr (Or.inr (Or.inl ⟨by rw [HDN.out]; rfl, rfl, HF6.out, HG6.out⟩))
        have HM7 := Lib.hid (HMM.out w7 HF6.out HG6.out HY1.out HY2.out)
        go_wp2_with fail
        refine HM7.out.mono ?_
        rintro e w8 ⟨c, rfl, hq⟩
        have HQ := Lib.hid hq
        clear hq HM7
        go_wp2_with fail
        go_ret2
        exact Or.inr (Or.inr (Or.inr ⟨by rw [HDN.out]; rfl, c, w7, rfl, HF6.out, HG6.out, HQ.out⟩))
      · go_wp2_with fail
        refine (HK.out _ 2 (by omega)).mono ?_
        rintro e w5 ⟨rfl, hf5, hg5⟩
        have HF5 := Lib.hid hf5
        have HG5 := Lib.hid hg5
        clear hf5 hg5
        go_wp2_with fail
        go_ret2
        exact Or.inr (Or.inl ⟨by rw [HDN.out]; rfl, rfl, HF5.out, HG5.out⟩)
    · go_wp2_with fail
      refine (HK.out _ 1 (by omega)).mono ?_
      rintro e w5 ⟨rfl, hf5, hg5⟩
      have HF5 := Lib.hid hf5
      have HG5 := Lib.hid hg5
      clear hf5 hg5
      go_wp2_with fail
      go_ret2
      exact Or.inl ⟨by rw [HDN.out]; rfl, rfl, HF5.out, HG5.out⟩
  · go_wp2_with fail
    refine (HK.out _ 1 (by omega)).mono ?_
    rintro e w5 ⟨rfl, hf5, hg5⟩
    have HF5 := Lib.hid hf5
    have HG5 := Lib.hid hg5
    clear hf5 hg5
    go_wp2_with fail
    go_ret2
    exact Or.inl ⟨by rw [HDN.out]; rfl, rfl, HF5.out, HG5.out⟩
end Go.Proofs.YtjlpdoppnhcjoaaDoor
