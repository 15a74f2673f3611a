/- The walk of the reader's list. -/
import Derived.Test.YtgppadnbfggkcaaQ
namespace Go.Proofs.Ytgppadnbfggkcaa
open Go.RowKit

theorem frozen_block {w w' : World} {p : Addr} (h : w'.heap[p.block]? = w.heap[p.block]?) : w'.frozen? p = w.frozen? p := by
  unfold World.frozen?; rw [h]
theorem RestAt.kept {S : Nat → Prop} {rb : Nat} {w w' : World} {l : List UInt8} (h : RestAt S rb w l) (hk : ∀ k, k < w.heap.size → S k ∨ k = rb → w'.heap[k]? = w.heap[k]?) (hs : w.heap.size ≤ w'.heap.size) : RestAt S rb w' l := by
  obtain ⟨v, h1, h2, h3, h4, h5, h6⟩ := h
  have e := hk rb h6 (Or.inr rfl)
  exact ⟨v, (World.cell?_of_block (w := w) e).trans h1, (frozen_block e).trans h2, h3.kept (fun k hS => ⟨hS, hk k (h5 k hS) (Or.inl hS)⟩), h4, fun k hS => by have := h5 k hS; omega, by omega⟩
theorem kb_grew {B rb : Nat} {w w1 w2 : World} {v v' : Value} (h : w.grownBy w1 (some rb)) (g : Grew w1 w2 v v') (hB : w.heap.size ≤ B) (hv : ∀ k, v.ownBlock = some k → B ≤ k) : w.grownBy w2 (some rb) :=
  ⟨g.gb.os.trans h.os, g.gb.tape.trans h.tape, g.gb.output.trans h.output, Nat.le_trans h.size g.size, fun j hj hne => by
    rw [g.gb.block j (Nat.lt_of_lt_of_le hj h.size) (fun e => by have := hv j e.symm; omega), h.block j hj hne]⟩
def listAcc (ys : List Val) (r : Except Int (List Val × List UInt8)) : Except Int (List Val × List UInt8) :=
  match r with
  | .ok (xs, l) => .ok (ys ++ xs, l)
  | .error c => .error c
theorem listAcc_more (ys : List Val) (x : Val) (r : Except Int (List Val × List UInt8)) : listAcc (ys ++ [x]) r = listAcc ys (match r with
      | .ok (xs, l) => .ok (x :: xs, l)
      | .error c => .error c) := by
  cases r with
  | ok p => simp [listAcc]
  | error c => rfl
set_option maxRecDepth 100000 in
set_option maxHeartbeats 2000000 in
theorem list_ok (n : Nat) (hIH : ValueOk n) (S : Nat → Prop) (rb m : Nat) (l : List UInt8) (a : Nat) (w : World) (ha : a + (n + 1) = 16) (hm : m < 18446744073709551616) (hl : l.length ≤ 1048576) (hR : RestAt S rb w l) :
    Calls Try.prog 42 #[.pointer (some ⟨rb, 0, none⟩), .int .u64 m, .int .i64 a] w (ListGives S rb w n (listD (valD n) m l)) := by
  obtain ⟨i0, hi, hz0, hz1, hz2⟩ := info_parts Try.info27
  have HH := Lib.hid hIH
  have HM := Lib.hid hm
  have HR := Lib.hid hR
  have hrb : rb < w.heap.size := hR.choose_spec.2.2.2.2.2
  have hSl : ∀ k, S k → k < w.heap.size := hR.choose_spec.2.2.2.2.1
  have HSL := Lib.hid hSl
  generalize hx : listD (valD n) m l = x
  have HX := Lib.hid hx
  clear hIH hm hR hx hSl
  go_enter Try.func42, Try.ntmps42
  go_wp2_with fail
  go_loopw [7, 9] (fun v i wr => ∃ (k : Nat) (qs : List Five) (ys : List Val) (l' : List UInt8), k ≤ m ∧ i = .int .u64 k ∧ qs.length = k ∧ l'.length + k ≤ l.length ∧ Rows5 w.heap.size wr n v qs ys ∧ RestAt S rb wr l' ∧ w.grownBy wr (some rb) ∧ listAcc ys (listD (valD n) (m - k) l') = x)
    (fun _ i _ => m - (intOf i).toNat)
  case atStart =>
    refine ⟨0, [], [], l, Nat.zero_le _, rfl, rfl, by omega, Rows5.nil _ _ _, HR.out, kb_refl _ _, ?_⟩
    rw [Nat.sub_zero, HX.out]
    cases x with
    | ok p => rfl
    | error c => rfl
  case round =>
    obtain ⟨k, qs, ys, l', hk, rfl, hqk, hlk, hrows, hrest, hgb, hacc⟩ := hrel
    have hsz := hgb.size
    have HRW := Lib.hid hrows
    have HRS := Lib.hid hrest
    have HGB := Lib.hid hgb
    have HAC := Lib.hid hacc
    have HQK := Lib.hid hqk
    clear hrows hrest hgb hacc hqk
    by_cases hlt : k < m
    · have hwc := HH.out S rb l' (a + 1) wr (by omega) (by omega) HRS.out
      have e : ((a + 1 : Nat) : Int) = (a : Int) + 1 := by omega
      rw [e] at hwc
      have hac := HAC.out
      obtain ⟨d, hd⟩ : ∃ d, m - k = d + 1 := ⟨m - k - 1, by omega⟩
      rw [hd] at hac
      simp only [listD] at hac
      cases hy : valD n l' with
      | error c =>
        rw [hy] at hac hwc
        simp only [listAcc] at hac
        subst hac
        have HC := Lib.hid hwc
        clear hwc e hy hd
        go_wp2_with fail
        refine HC.out.mono ?_
        rintro e w2 ⟨rfl, hg2⟩
        go_wp2_with fail
        exact ⟨rfl, rfl, kb_trans HGB.out hg2⟩
      | ok y =>
        obtain ⟨y, l2⟩ := y
        rw [hy] at hac hwc
        have hless := valD_less hy
        rw [show d = m - (k + 1) by omega] at hac
        have HAC2 := Lib.hid hac
        have HC := Lib.hid hwc
        clear hwc e hy hac hd
        go_wp2_with fail
        refine HC.out.mono ?_
        rintro e w2 ⟨v2, rfl, hy2, hr2, hg2⟩
        obtain ⟨yk, yu, yb, yf, yl⟩ := y
        obtain ⟨a1, n1, c1, a2, n2, c2, rfl⟩ := hy2.shape
        have hs2 := hg2.size
        have HY := Lib.hid hy2
        have HR2 := Lib.hid hr2
        have HG2 := Lib.hid hg2
        have hown0 : w2.ownsRow w.heap.size 27 5 u7 qs.length (qs.flatMap Five.flat) := by
          have h0 := HRW.out.own
          refine ⟨h0.1, ?_⟩
          rcases h0.2 with h2 | ⟨g, cap, cur, e1, e2, e3, e4⟩
          · exact Or.inl h2
          · refine Or.inr ⟨g, cap, cur, e1, e2, ?_, e4⟩
            rw [hg2.block g (Array.getElem?_eq_some_iff.1 e3).1 (fun e => by injection e with e; omega)]; exact e3
        have hqs : qs.length = k := HQK.out
        clear hy2 hr2 hg2
        go_wp2_with (at_builtin; refine wpList_own_src _ rfl _ _ 25 25 rfl w.heap.size 27 i0 _ 5 72 Try.underlying25 hi hz0 hz1 hz2 rfl (by decide) _ _ _ rfl (hown0.alloc _) _ 1 _ rfl (five_src _ _ _ _ _ _ _ _ _ _) ?c3 ?c4 ?c5 ?_)
        case c3 => unfold maxLen; omega
        case c4 => omega
        case c5 => simp; omega
        intro v4 w4 hown4 hg4
        rw [← HQK.out] at hown4
        have HN := Lib.hid (Rows5.more (q := ⟨_, _, _, _, _⟩) HRW.out hsz hrb HG2.out HY.out hg4 hown4)
        have hvb : ∀ k, u7.ownBlock = some k → w.heap.size ≤ k := fun k hk => (World.ownsRow.lt hown0 k hk).1
        have HG4 := Lib.hid (kb_grew (kb_alloc (kb_trans HGB.out HG2.out) _) hg4 (Nat.le_refl _) hvb)
        have hr4 : RestAt S rb w4 l2 := HR2.out.kept (fun j hj hS => by
          have hjw : j < w.heap.size := by rcases hS with hS | rfl; exact HSL.out j hS; exact hrb
          rw [hg4.gb.block j (by simp; omega) (fun e => by have := hvb j e.symm; omega), Below.heap_alloc _ _ _ hj]) (by have := hg4.size; simp at this; omega)
        have HR4 := Lib.hid hr4
        clear hown0 hown4 hg4 hvb hr4
        go_wp2_with fail
        go_roundw
        case rel => exact ⟨k + 1, _, _, l2, by omega, by go_num, by simp; omega, by omega, HN.out, HR4.out, HG4.out, by rw [listAcc_more]; exact HAC2.out⟩
        case measure => simp [intOf]; omega
    · have hkm : k = m := by omega
      subst hkm
      have hac := HAC.out
      rw [Nat.sub_self] at hac
      simp only [listD, listAcc, List.append_nil] at hac
      subst hac
      go_wp2_with fail
      go_ret
      exact ⟨_, rfl, HRW.out.list, HRS.out, HGB.out⟩
end Go.Proofs.Ytgppadnbfggkcaa
