/- The walk of the reference's value: lists. -/
import Derived.Test.YtgppadnbfggkcaaW
namespace Go.Proofs.Ytgppadnbfggkcaa
open Go.RowKit

/-- The cells of a list's value, at a block of their own. -/
structure ListAt (w : World) (b : Nat) (v : Value) : Prop where
  c0 : w.cell? ⟨b, 0, none⟩ = some (.int .i64 3)
  c1 : w.cell? ⟨b, 1, none⟩ = some (.int .u64 0)
  c2 : w.cell? ⟨b, 2, none⟩ = some (.slice none 0 0)
  c3 : w.cell? ⟨b, 3, none⟩ = some (.float .f64 0)
  c4 : w.cell? ⟨b, 4, none⟩ = some v
  z4 : w.frozen? ⟨b, 4, none⟩ = false
theorem ListAt.new (w : World) : ListAt (w.alloc (.cells #[.int .i64 3, .int .u64 0, .slice none 0 0, .float .f64 0, .slice none 0 0] 27)) w.heap.size (.slice none 0 0) := by
  obtain ⟨⟨c0, c1, c2, c3, c4⟩, z0, z1, z2, z3, z4⟩ := five_cells (new_five w #[.int .i64 3, .int .u64 0, .slice none 0 0, .float .f64 0, .slice none 0 0] 27)
  exact ⟨c0, c1, c2, c3, c4, z4⟩
theorem ListAt.kept {w w' : World} {b : Nat} {v : Value} (h : ListAt w b v) (e : w'.heap[b]? = w.heap[b]?) : ListAt w' b v :=
  ⟨(World.cell?_of_block (w := w) e).trans h.c0, (World.cell?_of_block (w := w) e).trans h.c1, (World.cell?_of_block (w := w) e).trans h.c2, (World.cell?_of_block (w := w) e).trans h.c3, (World.cell?_of_block (w := w) e).trans h.c4, (frozen_block e).trans h.z4⟩
theorem ListAt.set {w : World} {b : Nat} {v : Value} (h : ListAt w b v) (u : Value) : ListAt (w.setCell ⟨b, 4, none⟩ u) b u := by
  obtain ⟨c0, c1, c2, c3, c4, z4⟩ := h
  refine ⟨?_, ?_, ?_, ?_, ?_, ?_⟩ <;> simp [go_sem, c0, c1, c2, c3, c4, z4]
theorem kb_any {w w' : World} (h : Below w.heap.size w w') (row : Option Nat) : w.grownBy w' row := ⟨h.os, h.tape, h.output, h.size, fun k hk _ => h.block k hk⟩
theorem Rows5.set {B : Nat} {w : World} {n b : Nat} {v : Value} {qs : List Five} {ys : List Val} (h : Rows5 B w n v qs ys) (hb : b < B) (u : Value) : Rows5 B (w.setCell ⟨b, 4, none⟩ u) n v qs ys :=
  ⟨ownsRow_setCell_below h.own hb u, h.len, fun j q y hq hy => ReadsS.kept (fun k hk => ⟨⟨hk.1, by simpa using hk.2.1, hk.2.2⟩, Below.heap_setCell _ _ _ _ (by simp; omega)⟩) n _ _ (h.each j q y hq hy)⟩
theorem five_src1 (w : World) (o : Obj) (k u : Int) (a1 a2 : Option Addr) (n1 c1 n2 c2 fb : Nat) : Src Try.prog 5 25 (.slice (some ⟨w.heap.size + 1, 0, none⟩) 1 1) 1 [.int .i64 k, .int .u64 u, .slice a1 n1 c1, .float .f64 fb, .slice a2 n2 c2]
    ((w.alloc o).alloc (.cells #[.int .i64 k, .int .u64 u, .slice a1 n1 c1, .float .f64 fb, .slice a2 n2 c2] 27)) := by
  have h := five_src (w.alloc o) k u a1 a2 n1 c1 n2 c2 fb
  rw [show (w.alloc o).heap.size = w.heap.size + 1 by simp] at h
  exact h
theorem own5_slice {w : World} {B n : Nat} {v : Value} {xs : List Value} (h : w.ownsRow B 27 5 v n xs) : ∃ a c, v = .slice a n c := by
  rcases h.2 with ⟨e, hn⟩ | ⟨g, cap, cur, e, _⟩
  · rw [hn]; exact ⟨none, 0, e⟩
  · exact ⟨_, _, e⟩
set_option maxRecDepth 100000 in
set_option maxHeartbeats 2000000 in
theorem rvalue_list (n : Nat) (hIH : RValueOk n) (s r : List UInt8) (t a k m : Nat) (w : World) (ha : a + (n + 1) = 16) (hl : s.length ≤ 1048576) (ht : t ≤ s.length) (hh : headD (s.drop t) = .ok (k, m, r)) (h0 : k ≠ 0) (h1 : k ≠ 1) (h2 : k ≠ 2) :
    Calls Try.prog 26 #[.string ⟨s.toArray⟩, .int .i64 t, .int .i64 (a + 1 : Nat)] w (RValGives s t w (n + 1) (match listD (valD n) m r with
        | .ok (xs, r') => .ok (.mk 3 0 [] 0 xs, r')
        | .error c => .error c)) := by
  have hst := run_storeF
  obtain ⟨i0, hi, hz0, hz1, hz2⟩ := info_parts Try.info27
  have HH := rhead_all s t (w.alloc (.cells #[.int .i64 0, .int .u64 0, .slice none 0 0, .float .f64 0, .slice none 0 0] 27)) hl
  have HAT := Lib.hid (head_at ht hh)
  rw [hh] at HH
  have H := Lib.hid HH
  have htt : t + (headB k m).length ≤ s.length := by have := HAT.out.1; omega
  have hk0 : ((k : Int) == 0) = false := by rw [beq_eq_false_iff_ne]; omega
  have hk1 : ((k : Int) == 1) = false := by rw [beq_eq_false_iff_ne]; omega
  have hk2 : ((k : Int) == 2) = false := by rw [beq_eq_false_iff_ne]; omega
  have HI := Lib.hid hIH
  have hd22 : decide ((16 : Int) < (a : Int) + 1) = false := by simp; omega
  generalize hx : listD (valD n) m r = x
  have HX := Lib.hid hx
  clear HH hh hx hIH
  go_enter Try.func26, Try.ntmps26
  go_wp2_with fail
  refine H.out.mono ?_
  rintro e w1 ⟨rfl, _, hm, hb1⟩
  generalize (headB k m).length = hb at *
  have HS := Lib.hid (RStart.of hb1)
  have HM := Lib.hid hm
  clear hb1 hm
  have hs1 : w.heap.size + 1 ≤ w1.heap.size := HS.out.size
  go_wp2_with fail
  go_loopw [1, 17] (fun p i wr => ∃ (kk : Nat) (qs : List Five) (ys : List Val) (t' : Nat) (v' : Value), kk ≤ m ∧ p = .int .i64 t' ∧ i = .int .u64 kk ∧ t + hb ≤ t' ∧ t' ≤ s.length ∧ qs.length = kk ∧ kk ≤ t' ∧ Rows5 (w1.heap.size + 1) wr n v' qs ys ∧ ListAt wr w1.heap.size v' ∧ Below w1.heap.size w1 wr ∧
      w1.heap.size + 1 ≤ wr.heap.size ∧ listAcc ys (listD (valD n) (m - kk) (s.drop t')) = x)
    (fun _ i _ => m - (intOf i).toNat)
  case atStart =>
    refine ⟨0, [], [], t + hb, .slice none 0 0, Nat.zero_le _, ?_, rfl, by omega, htt, rfl, by omega, Rows5.nil _ _ _, ListAt.new w1, (Below.refl _ _).alloc (Nat.le_refl _) _, by simp, ?_⟩
    · go_num
    · rw [Nat.sub_zero, HAT.out.2, HX.out]
      cases x with
      | ok p => rfl
      | error c => rfl
  case round =>
    obtain ⟨kk, qs, ys, t', v', hkm, rfl, rfl, htl, htu, hqk, hkt, hrows, hlist, hbel, hsz, hacc⟩ := hrel
    have HRW := Lib.hid hrows
    have HLS := Lib.hid hlist
    have HBL := Lib.hid hbel
    have HAC := Lib.hid hacc
    have HQK := Lib.hid hqk
    clear hrows hlist hbel hacc hqk
    by_cases hlt : kk < m
    · have hwc := HI.out s t' (a + 1) wr (by omega) hl htu
      have e : ((a + 1 + 1 : Nat) : Int) = (a : Int) + 1 + 1 := by omega
      rw [e] at hwc
      have hac := HAC.out
      obtain ⟨d, hd⟩ : ∃ d, m - kk = d + 1 := ⟨m - kk - 1, by omega⟩
      rw [hd] at hac
      simp only [listD] at hac
      cases hy : valD n (s.drop t') with
      | error c =>
        rw [hy] at hac hwc
        simp only [listAcc] at hac
        subst hac
        have HC := Lib.hid hwc
        clear hwc e hy hd
        go_wp2_with fail
        refine HC.out.mono ?_
        rintro e w2 ⟨t2, rfl, hc0, hb2⟩
        have hcb : (c == 0) = false := by rw [beq_eq_false_iff_ne]; exact hc0
        have HC0 := Lib.hid hc0
        have HS2 := Lib.hid ((HS.out.step (HBL.out.trans (hb2.mono (by omega)))).step ((Below.refl _ w2).alloc (Nat.le_refl _) (.cells #[.int .i64 0, .int .u64 0, .slice none 0 0, .float .f64 0, .slice none 0 0] 27)))
        obtain ⟨⟨c0, c1, c2, c3, c4⟩, z0, z1, z2, z3, z4⟩ := five_cells HS2.out.blk
        clear hb2 hc0
        go_wp2_with fail
        obtain ⟨r0, r1, r2, r3, r4⟩ := set5_cells c0 c1 c2 c3 c4 (.int .i64 0) (.int .u64 0) (.slice none 0 0) (.float .f64 0) (.slice none 0 0)
        unfold set5 at r0 r1 r2 r3 r4
        exact bodyPost_ret (v := .tuple #[.agg #[.int .i64 0, .int .u64 0, .slice none 0 0, .float .f64 0, .slice none 0 0], .int .i64 (t' : Nat), .int .i64 c]) (by simp [results, Try.results26, go_sem, r0, r1, r2, r3, r4]) rfl
          ⟨t', rfl, HC0.out, HS2.out.fin _ _ _ _ _⟩
      | ok y =>
        obtain ⟨y, l2⟩ := y
        rw [hy] at hac hwc
        have hless := valD_less hy
        rw [show d = m - (kk + 1) by omega] at hac
        have HAC2 := Lib.hid hac
        have HC := Lib.hid hwc
        clear hwc e hy hac hd
        go_wp2_with fail
        refine HC.out.mono ?_
        rintro e w2 ⟨v2, t2, rfl, ht1, ht2, hdr, hy2, hb2⟩
        obtain ⟨yk, yu, yb, yf, yl⟩ := y
        obtain ⟨a1, n1, c1, a2, n2, c2, rfl⟩ := hy2.shape
        have hs2 := hb2.size
        have hown2 : w2.ownsRow (w1.heap.size + 1) 27 5 v' qs.length (qs.flatMap Five.flat) := by
          have h0 := HRW.out.own
          refine ⟨h0.1, ?_⟩
          rcases h0.2 with h2 | ⟨g, cap, cur, e1, e2, e3, e4⟩
          · exact Or.inl h2
          · exact Or.inr ⟨g, cap, cur, e1, e2, (hb2.block g (Array.getElem?_eq_some_iff.1 e3).1).trans e3, e4⟩
        have hls2 : ListAt (w2.alloc (.cells #[.int .i64 yk, .int .u64 yu, .slice a1 n1 c1, .float .f64 yf, .slice a2 n2 c2] 27)) w1.heap.size v' :=
          (HLS.out.kept (hb2.block _ (by omega))).kept (Below.heap_alloc _ _ _ (by omega))
        have hg4c := hls2.c4
        have HY := Lib.hid hy2
        have HB2 := Lib.hid hb2
        have HL2 := Lib.hid hls2
        have hqs : qs.length = kk := HQK.out
        have hvb : ∀ j, v'.ownBlock = some j → w1.heap.size + 1 ≤ j := fun j hj => (World.ownsRow.lt hown2 j hj).1
        have HVB := Lib.hid hvb
        have hless2 : t' < t2 := by
          have e1 := congrArg List.length hdr
          rw [List.length_drop] at e1
          rw [List.length_drop] at hless
          omega
        have HDR := Lib.hid hdr
        rw [hqs] at hown2
        obtain ⟨va, vc, rfl⟩ := own5_slice hown2
        clear hqs hy2 hb2 hls2 hvb hdr hless
        go_wp2_with (at_builtin; refine wpList_own_src _ rfl _ _ 25 25 rfl (w1.heap.size + 1) 27 i0 _ 5 72 Try.underlying25 hi hz0 hz1 hz2 rfl (by decide) _ _ _ rfl ((hown2.alloc _).alloc _) _ 1 _ rfl (five_src1 _ _ _ _ _ _ _ _ _ _ _) ?c3 ?c4 ?c5 ?_)
        case c3 => unfold maxLen; omega
        case c4 => omega
        case c5 => simp; omega
        intro v4 w4 hown4 hg4
        rw [← HQK.out] at hown4
        have hs4 := hg4.size
        simp at hs4
        have hl4 : ListAt w4 w1.heap.size (.slice va kk vc) := (HL2.out.kept (Below.heap_alloc _ _ _ (by simp; omega))).kept (hg4.gb.block _ (by simp; omega) (fun e => by have := HVB.out _ e.symm; omega))
        have hb4 : Below w1.heap.size w1 w4 := by
          exact Below.grown (((HBL.out.trans (HB2.out.mono (by omega))).alloc (by omega) _).alloc (by simp; omega) _) hg4.gb (by simp; omega) (fun j hj => by have := HVB.out j hj; omega)
        have hr4 := (Rows5.more (q := ⟨_, _, _, _, _⟩) HRW.out (by omega) (by omega) (kb_any (HB2.out.alloc (by omega) _) (some w1.heap.size)) (ReadsS.kept (fun j hj => ⟨⟨hj.1, by simp; omega⟩, Below.heap_alloc _ _ _ hj.2⟩) n _ _ HY.out) hg4 hown4).set (b := w1.heap.size) (by omega) v4
        obtain ⟨v4a, v4c, rfl⟩ := own5_slice hown4
        have hc4 := hl4.c4
        have hz4 := hl4.z4
        have HR4 := Lib.hid hr4
        have HL4 := Lib.hid (hl4.set (.slice v4a (qs.length + 1) v4c))
        have HB4 := Lib.hid (hb4.setCell (p := ⟨w1.heap.size, 4, none⟩) (by simp) (.slice v4a (qs.length + 1) v4c))
        clear hown2 hown4 hg4 hr4 hl4 hb4 hg4c
        go_wp2_with fail
        go_roundw
        case rel => exact ⟨kk + 1, _, _, t2, _, by omega, rfl, by go_num, by omega, ht2, by have := HQK.out; simp; omega, by omega, HR4.out, HL4.out, HB4.out, by simp; omega, by rw [listAcc_more, HDR.out]; exact HAC2.out⟩
        case measure => simp [intOf]; omega
    · have hkm2 : kk = m := by omega
      subst hkm2
      have hac := HAC.out
      rw [Nat.sub_self] at hac
      simp only [listD, listAcc, List.append_nil] at hac
      subst hac
      obtain ⟨va, vc, rfl⟩ := own5_slice HRW.out.own
      have HS2 := Lib.hid (HS.out.step HBL.out)
      obtain ⟨⟨c0, c1, c2, c3, c4⟩, z0, z1, z2, z3, z4⟩ := five_cells HS2.out.blk
      obtain ⟨l0, l1, l2, l3, l4, _⟩ := HLS.out
      go_wp2_with fail
      obtain ⟨r0, r1, r2, r3, r4⟩ := set5_cells c0 c1 c2 c3 c4 (.int .i64 3) (.int .u64 0) (.slice none 0 0) (.float .f64 0) (.slice va qs.length vc)
      unfold set5 at r0 r1 r2 r3 r4
      have hlen := HRW.out.len
      have hx := RStart.reads (w := w) (w1 := wr) (n := n + 1) (x := .mk 3 0 [] 0 ys) (v0 := .int .i64 3) (v1 := .int .u64 0) (v2 := .slice none 0 0) (v3 := .float .f64 0) (v4 := .slice va qs.length vc)
        (ReadsS.kept (S := fun j => w1.heap.size + 1 ≤ j ∧ j < wr.heap.size) (fun j hj => ⟨⟨by omega, hj.2⟩, rfl⟩) (n + 1) _ _ ⟨_, _, rfl, by omega, by omega, by simp, by have := HQK.out; omega, Or.inl ⟨rfl, rfl⟩, HRW.out.list⟩)
      exact bodyPost_ret (v := .tuple #[.agg #[.int .i64 3, .int .u64 0, .slice none 0 0, .float .f64 0, .slice va qs.length vc], .int .i64 (t' : Nat), .int .i64 0]) (by simp [results, Try.results26, go_sem, r0, r1, r2, r3, r4]) rfl
        ⟨_, t', rfl, by omega, htu, rfl, hx, HS2.out.fin _ _ _ _ _⟩
theorem rvalue_ok : ∀ n, RValueOk n
  | 0 => rvalue_deep
  | n + 1 => by
    intro s t a w ha hl ht
    simp only [valD]
    cases hh : headD (s.drop t) with
    | error c => exact rvalue_head (n + 1) s t a w (by omega) hl c hh
    | ok p =>
      obtain ⟨k, m, r⟩ := p
      simp only
      by_cases h0 : k = 0
      · subst h0
        rw [if_pos rfl]; exact rvalue_num n s r t a m w (by omega) hl ht hh
      rw [if_neg h0]
      by_cases h1 : k = 1
      · subst h1
        rw [if_pos rfl]
        by_cases hs : r.length < m
        · rw [if_pos hs]; exact rvalue_short n s r t a m w (by omega) hl ht hh hs
        · rw [if_neg hs]; exact rvalue_bytes n s r t a m w (by omega) hl ht hh (by omega)
      rw [if_neg h1]
      by_cases h2 : k = 2
      · subst h2
        rw [if_pos rfl]; exact rvalue_real n s r t a m w (by omega) hl ht hh
      · rw [if_neg h2]; exact rvalue_list n (rvalue_ok n) s r t a k m w ha hl ht hh h0 h1 h2
end Go.Proofs.Ytgppadnbfggkcaa
