/- The walk of the law GearCuts. -/
import Derived.Test.YtgfnlplgkgoinaaGearJ
import Derived.Deep.RegionHeld3
import Derived.Deep.DrawnRows
namespace Go.Proofs.Ytgfnlplgkgoinaa
open Go.RowKit

theorem below_tr {w0 w w' : World} (h : Below w0.heap.size w0 w) (h2 : Below w.heap.size w w') : Below w0.heap.size w0 w' := h.trans (h2.mono h.size)
theorem below_tn {w0 w : World} (h : Below w0.heap.size w0 w) (n : Nat) : Below w0.heap.size w0 (w.drewN n) := h.trans (below_drewN _ _ n)
theorem same_true (S T : Nat → Prop) (va vb : Value) (l : List Nat) (w : World) (ha : IntsC S w va l) (hb : IntsC T w vb l) (hl : l.length ≤ 4194304) :
    Calls Try.prog 15 #[va, vb] w fun e w' => e = .returned (.bool true) ∧ ∃ n, w' = w.drewN n :=
  (same_any S T va vb l l w ha hb hl).mono fun e w' ⟨h1, h2⟩ => ⟨by rw [h1, decide_eq_true rfl], h2⟩
theorem quiet_left {P : Program} {f : FuncId} {args : Array Value} {w : World} {n : Nat} {v : Value}
    (h : Calls P f args (w.drewN n) fun e w' => e = .returned v ∧ w.drewN n = w') : Calls P f args (w.drewN n) fun e w'' => e = .returned v ∧ ∃ m, w'' = w.drewN m :=
  h.mono fun _ _ ⟨he, hm⟩ => ⟨he, n, hm.symm⟩
theorem cut3000 {S : Nat → Prop} {w : World} {a : Option Addr} {l : List UInt8} {c : Nat} (h : BytesC S w (.slice a l.length c) l) (n : Nat) (hn : n ≤ l.length) (hp : 0 < l.length) : BytesC S w (.slice a n c) (l.take n) := by
  cases a with
  | none =>
    rcases h with ⟨_, h2⟩ | ⟨a', cap', h1, _⟩
    · rw [h2] at hp; simp at hp
    · cases h1
  | some a => exact cut_c h n hn
set_option maxRecDepth 100000 in
set_option maxHeartbeats 4000000 in
theorem law_cuts_bad (v : Value) (l : List UInt8) (a b c : Int) (w : World) (hl : l.length ≤ 1048576) (hB : BytesC (fun k => k < w.heap.size) w v l) (hg : wrongN a b c = true) : Calls Try.prog 3 #[v, par a b c] w (True' w) := by
  have HB := Lib.hid hB
  obtain ⟨ao, ca, rfl⟩ := hB.shape
  have HC1 := Lib.hid (fun v w => cut_bad v a b c w hg)
  have HC2 := Lib.hid (fun v w => split_bad v a b c w hg)
  have hc3 := fun w => rwrong_any a b c w
  have hc4 := fun w => check_any a b c w
  simp only [hg, if_true] at hc3 hc4
  have HC3 := Lib.hid hc3
  have HC4 := Lib.hid hc4
  have HB0 : Hid (Below w.heap.size w (w.alloc (.cells #[.int .i64 a, .int .i64 b, .int .i64 c] 24))) := Lib.hid ((Below.refl _ _).alloc (Nat.le_refl _) _)
  have HN0 := Lib.hid (new_five w #[.int .i64 a, .int .i64 b, .int .i64 c] 24)
  clear hB hc3 hc4 hg
  go_enter Try.func3, Try.ntmps3
  go_wp2_with fail
  refine (awake_any _).mono ?_
  rintro e w1 ⟨rfl, hb1⟩
  have hs1 : w.heap.size < w1.heap.size := by have := hb1.size; simp at this; omega
  have HB1 := Lib.hid (HB0.out.trans (hb1.mono (by simp)))
  obtain ⟨c0, c1, c2⟩ := three_cells ((hb1.block w.heap.size (by simp)).trans HN0.out)
  have C := Lib.hid (And.intro c0 (And.intro c1 c2))
  clear hb1
  have hca : 3000 ≤ l.length → l.length ≤ ca ∧ ca ≤ 9223372036854775807 := fun h => by
    rcases HB.out with ⟨_, hx⟩ | ⟨aa, ca', h1, hcl, hcm, _⟩
    · rw [hx] at h; simp at h
    · injection h1 with _ _ e; subst e
      unfold maxLen at hcm; omega
  by_cases h3 : 3000 < l.length
  · obtain ⟨hca1, hca2⟩ := hca (by omega)
    clear hca
    go_wp2_with fail
    refine (HC1.out _ _).mono ?_
    rintro e w2 ⟨rfl, hb2⟩
    have hs2 := hb2.size
    have HB2 := Lib.hid (HB1.out.trans (hb2.mono (by omega)))
    have c0 := (hb2.cell (p := ⟨w.heap.size, 0, none⟩) hs1).trans C.out.1
    have c1 := (hb2.cell (p := ⟨w.heap.size, 1, none⟩) hs1).trans C.out.2.1
    have c2 := (hb2.cell (p := ⟨w.heap.size, 2, none⟩) hs1).trans C.out.2.2
    have C2 := Lib.hid (And.intro c0 (And.intro c1 c2))
    clear hb2
    go_wp2_with fail
    refine (HC2.out _ _).mono ?_
    rintro e w3 ⟨rfl, hb3⟩
    have hs3 := hb3.size
    have HB3 := Lib.hid (HB2.out.trans (hb3.mono (by omega)))
    have c0 := (hb3.cell (p := ⟨w.heap.size, 0, none⟩) (by show w.heap.size < _; omega)).trans C2.out.1
    have c1 := (hb3.cell (p := ⟨w.heap.size, 1, none⟩) (by show w.heap.size < _; omega)).trans C2.out.2.1
    have c2 := (hb3.cell (p := ⟨w.heap.size, 2, none⟩) (by show w.heap.size < _; omega)).trans C2.out.2.2
    have C3 := Lib.hid (And.intro c0 (And.intro c1 c2))
    clear hb3
    go_wp2_with fail
    refine (HC3.out _).mono ?_
    rintro e w4 ⟨rfl, rfl⟩
    go_wp2_with fail
    refine (HC4.out _).mono ?_
    rintro e w4 ⟨rfl, hb4⟩
    have HB4 := Lib.hid (HB3.out.trans (hb4.mono (by omega)))
    clear hb4
    go_wp2_with fail
    go_ret
    exact ⟨rfl, HB4.out⟩
  · clear hca
    go_wp2_with fail
    refine (HC1.out _ _).mono ?_
    rintro e w2 ⟨rfl, hb2⟩
    have hs2 := hb2.size
    have HB2 := Lib.hid (HB1.out.trans (hb2.mono (by omega)))
    have c0 := (hb2.cell (p := ⟨w.heap.size, 0, none⟩) hs1).trans C.out.1
    have c1 := (hb2.cell (p := ⟨w.heap.size, 1, none⟩) hs1).trans C.out.2.1
    have c2 := (hb2.cell (p := ⟨w.heap.size, 2, none⟩) hs1).trans C.out.2.2
    have C2 := Lib.hid (And.intro c0 (And.intro c1 c2))
    clear hb2
    go_wp2_with fail
    refine (HC2.out _ _).mono ?_
    rintro e w3 ⟨rfl, hb3⟩
    have hs3 := hb3.size
    have HB3 := Lib.hid (HB2.out.trans (hb3.mono (by omega)))
    have c0 := (hb3.cell (p := ⟨w.heap.size, 0, none⟩) (by show w.heap.size < _; omega)).trans C2.out.1
    have c1 := (hb3.cell (p := ⟨w.heap.size, 1, none⟩) (by show w.heap.size < _; omega)).trans C2.out.2.1
    have c2 := (hb3.cell (p := ⟨w.heap.size, 2, none⟩) (by show w.heap.size < _; omega)).trans C2.out.2.2
    have C3 := Lib.hid (And.intro c0 (And.intro c1 c2))
    clear hb3
    go_wp2_with fail
    refine (HC3.out _).mono ?_
    rintro e w4 ⟨rfl, rfl⟩
    go_wp2_with fail
    refine (HC4.out _).mono ?_
    rintro e w4 ⟨rfl, hb4⟩
    have HB4 := Lib.hid (HB3.out.trans (hb4.mono (by omega)))
    clear hb4
    go_wp2_with fail
    go_ret
    exact ⟨rfl, HB4.out⟩
end Go.Proofs.Ytgfnlplgkgoinaa
