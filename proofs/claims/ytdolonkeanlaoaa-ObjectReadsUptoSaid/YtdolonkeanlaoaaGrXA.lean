/- The walk of the reference's value: lists. Contracts: the reference's Decode. The walk of same: two memories of one value. Contracts: the makers of values; the walk of copyList. -/
import Derived.Test.YtdolonkeanlaoaaGrTW
import Derived.Test.YtdolonkeanlaoaaGrLS
import Derived.Test.YtdolonkeanlaoaaGrFK
import Derived.Deep.QuietTactic
import Derived.BigQuiet
import Derived.StillTailTactics
namespace Go.Proofs.Ytdolonkeanlaoaa
open Go.RowKit

/-- The cells of a list's value, at a block of their own. -/
structure ListAt (w : World) (b : Nat) (v : Value) : Prop where
  c0 : w.cell? ⟨b, 0, none⟩ = some (.int .i64 3)
  c1 : w.cell? ⟨b, 1, none⟩ = some (.int .u64 0)
  c2 : w.cell? ⟨b, 2, none⟩ = some (.slice none 0 0)
  c3 : w.cell? ⟨b, 3, none⟩ = some (.float .f64 0)
  c4 : w.cell? ⟨b, 4, none⟩ = some v
  z4 : w.frozen? ⟨b, 4, none⟩ = false
theorem ListAt.new (w : World) : ListAt (w.alloc (.cells #[.int .i64 3, .int .u64 0, .slice none 0 0, .float .f64 0, .slice none 0 0] 82)) w.heap.size (.slice none 0 0) := by
  obtain ⟨⟨c0, c1, c2, c3, c4⟩, z0, z1, z2, z3, z4⟩ := five_cells (new_five w #[.int .i64 3, .int .u64 0, .slice none 0 0, .float .f64 0, .slice none 0 0] 82)
  exact ⟨c0, c1, c2, c3, c4, z4⟩
theorem ListAt.kept {w w' : World} {b : Nat} {v : Value} (h : ListAt w b v) (e : w'.heap[b]? = w.heap[b]?) : ListAt w' b v :=
  ⟨(World.cell?_of_block (w := w) e).trans h.c0, (World.cell?_of_block (w := w) e).trans h.c1, (World.cell?_of_block (w := w) e).trans h.c2, (World.cell?_of_block (w := w) e).trans h.c3, (World.cell?_of_block (w := w) e).trans h.c4, (frozen_block e).trans h.z4⟩
theorem ListAt.set {w : World} {b : Nat} {v : Value} (h : ListAt w b v) (u : Value) : ListAt (w.setCell ⟨b, 4, none⟩ u) b u := by
  obtain ⟨c0, c1, c2, c3, c4, z4⟩ := h
  refine ⟨?_, ?_, ?_, ?_, ?_, ?_⟩ <;> simp [go_sem, c0, c1, c2, c3, c4, z4]
theorem Rows5.set {B : Nat} {w : World} {n b : Nat} {v : Value} {qs : List Five} {ys : List Val} (h : Rows5 B w n v qs ys) (hb : b < B) (u : Value) : Rows5 B (w.setCell ⟨b, 4, none⟩ u) n v qs ys :=
  ⟨ownsRow_setCell_below h.own hb u, h.len, fun j q y hq hy => ReadsS.kept (fun k hk => ⟨⟨hk.1, by simpa using hk.2.1, hk.2.2⟩, Below.heap_setCell _ _ _ _ (by simp; omega)⟩) n _ _ (h.each j q y hq hy)⟩
theorem five_src1 (w : World) (o : Obj) (k u : Int) (a1 a2 : Option Addr) (n1 c1 n2 c2 fb : Nat) : Src Try.prog 5 80 (.slice (some ⟨w.heap.size + 1, 0, none⟩) 1 1) 1 [.int .i64 k, .int .u64 u, .slice a1 n1 c1, .float .f64 fb, .slice a2 n2 c2]
    ((w.alloc o).alloc (.cells #[.int .i64 k, .int .u64 u, .slice a1 n1 c1, .float .f64 fb, .slice a2 n2 c2] 82)) := by
  have h := five_src (w.alloc o) k u a1 a2 n1 c1 n2 c2 fb
  rw [show (w.alloc o).heap.size = w.heap.size + 1 by simp] at h
  exact h
theorem own5_slice {w : World} {B n : Nat} {v : Value} {xs : List Value} (h : w.ownsRow B 82 5 v n xs) : ∃ a c, v = .slice a n c := by
  rcases h.2 with ⟨e, hn⟩ | ⟨g, cap, cur, e, _⟩
  · rw [hn]; exact ⟨none, 0, e⟩
  · exact ⟨_, _, e⟩
set_option maxRecDepth 100000 in
set_option maxHeartbeats 2000000 in
theorem rvalue_list (n : Nat) (hIH : RValueOk n) (s r : List UInt8) (t a k m : Nat) (w : World) (ha : a + (n + 1) = 16) (hl : s.length ≤ 1048576) (ht : t ≤ s.length) (hh : headD (s.drop t) = .ok (k, m, r)) (h0 : k ≠ 0) (h1 : k ≠ 1) (h2 : k ≠ 2) :
    Calls Try.prog 89 #[.string ⟨s.toArray⟩, .int .i64 t, .int .i64 (a + 1 : Nat)] w (RValGives s t w (n + 1) (match listD (valD n) m r with
        | .ok (xs, r') => .ok (.mk 3 0 [] 0 xs, r')
        | .error c => .error c)) := by
  have hst := run_storeF
  obtain ⟨i0, hi, hz0, hz1, hz2⟩ := info_parts Try.info82
  have HH := rhead_all s t (w.alloc (.cells #[.int .i64 0, .int .u64 0, .slice none 0 0, .float .f64 0, .slice none 0 0] 82)) hl
  have HAT := Lib.hid (head_at ht hh)
  rw [hh] at HH
  have H := Lib.hid HH
  have htt : t + (headB k m).length ≤ s.length := by have := HAT.out.1; omega
  have hk0 : ((k : Int) == 0) = false := by rw [beq_eq_false_iff_ne]; omega
  have hk1 : ((k : Int) == 1) = false := by rw [beq_eq_false_iff_ne]; omega
  have hk2 : ((k : Int) == 2) = false := by rw [beq_eq_false_iff_ne]; omega
  have HI := Lib.hid hIH
  have hd22 : decide ((16 : Int) < (a : Int) + 1) = false := by simp; omega
  generalize hx : listD (valD n) m r = x
  have HX := Lib.hid hx
  clear HH hh hx hIH
  go_enter Try.func89, Try.ntmps89
  go_wp2_with fail
  refine H.out.mono ?_
  rintro e w1 ⟨rfl, _, hm, hb1⟩
  generalize (headB k m).length = hb at *
  have HS := Lib.hid (RStart.of hb1)
  have HM := Lib.hid hm
  clear hb1 hm
  have hs1 : w.heap.size + 1 ≤ w1.heap.size := HS.out.size
  go_wp2_with fail
  go_loopw [1, 17] (fun p i wr => ∃ (kk : Nat) (qs : List Five) (ys : List Val) (t' : Nat) (v' : Value), kk ≤ m ∧ p = .int .i64 t' ∧ i = .int .u64 kk ∧ t + hb ≤ t' ∧ t' ≤ s.length ∧ qs.length = kk ∧ kk ≤ t' ∧ Rows5 (w1.heap.size + 1) wr n v' qs ys ∧ ListAt wr w1.heap.size v' ∧ Below w1.heap.size w1 wr ∧
      w1.heap.size + 1 ≤ wr.heap.size ∧ listAcc ys (listD (valD n) (m - kk) (s.drop t')) = x)
    (fun _ i _ => m - (intOf i).toNat)
  case atStart =>
    refine ⟨0, [], [], t + hb, .slice none 0 0, Nat.zero_le _, ?_, rfl, by omega, htt, rfl, by omega, Rows5.nil _ _ _, ListAt.new w1, (Below.refl _ _).alloc (Nat.le_refl _) _, by simp, ?_⟩
    · go_num
    · rw [Nat.sub_zero, HAT.out.2, HX.out]
      cases x with
      | ok p => rfl
      | error c => rfl
  case round =>
    obtain ⟨kk, qs, ys, t', v', hkm, rfl, rfl, htl, htu, hqk, hkt, hrows, hlist, hbel, hsz, hacc⟩ := hrel
    have HRW := Lib.hid hrows
    have HLS := Lib.hid hlist
    have HBL := Lib.hid hbel
    have HAC := Lib.hid hacc
    have HQK := Lib.hid hqk
    clear hrows hlist hbel hacc hqk
    by_cases hlt : kk < m
    · have hwc := HI.out s t' (a + 1) wr (by omega) hl htu
      have e : ((a + 1 + 1 : Nat) : Int) = (a : Int) + 1 + 1 := by omega
      rw [e] at hwc
      have hac := HAC.out
      obtain ⟨d, hd⟩ : ∃ d, m - kk = d + 1 := ⟨m - kk - 1, by omega⟩
      rw [hd] at hac
      simp only [listD] at hac
      cases hy : valD n (s.drop t') with
      | error c =>
        rw [hy] at hac hwc
        simp only [listAcc] at hac
        subst hac
        have HC := Lib.hid hwc
        clear hwc e hy hd
        go_wp2_with fail
        refine HC.out.mono ?_
        rintro e w2 ⟨t2, rfl, hc0, hb2⟩
        have hcb : (c == 0) = false := by rw [beq_eq_false_iff_ne]; exact hc0
        have HC0 := Lib.hid hc0
        have HS2 := Lib.hid ((HS.out.step (HBL.out.trans (hb2.mono (by omega)))).step ((Below.refl _ w2).alloc (Nat.le_refl _) (.cells #[.int .i64 0, .int .u64 0, .slice none 0 0, .float .f64 0, .slice none 0 0] 82)))
        obtain ⟨⟨c0, c1, c2, c3, c4⟩, z0, z1, z2, z3, z4⟩ := five_cells HS2.out.blk
        clear hb2 hc0
        go_wp2_with fail
        obtain ⟨r0, r1, r2, r3, r4⟩ := set5_cells c0 c1 c2 c3 c4 (.int .i64 0) (.int .u64 0) (.slice none 0 0) (.float .f64 0) (.slice none 0 0)
        unfold set5 at r0 r1 r2 r3 r4
        exact bodyPost_ret (v := .tuple #[.agg #[.int .i64 0, .int .u64 0, .slice none 0 0, .float .f64 0, .slice none 0 0], .int .i64 (t' : Nat), .int .i64 c]) (by simp [results, Try.results89, go_sem, r0, r1, r2, r3, r4]) rfl
          ⟨t', rfl, HC0.out, HS2.out.fin _ _ _ _ _⟩
      | ok y =>
        obtain ⟨y, l2⟩ := y
        rw [hy] at hac hwc
        have hless := valD_less hy
        rw [show d = m - (kk + 1) by omega] at hac
        have HAC2 := Lib.hid hac
        have HC := Lib.hid hwc
        clear hwc e hy hac hd
        go_wp2_with fail
        refine HC.out.mono ?_
        rintro e w2 ⟨v2, t2, rfl, ht1, ht2, hdr, hy2, hb2⟩
        obtain ⟨yk, yu, yb, yf, yl⟩ := y
        obtain ⟨a1, n1, c1, a2, n2, c2, rfl⟩ := hy2.shape
        have hs2 := hb2.size
        have hown2 : w2.ownsRow (w1.heap.size + 1) 82 5 v' qs.length (qs.flatMap Five.flat) := by
          have h0 := HRW.out.own
          refine ⟨h0.1, ?_⟩
          rcases h0.2 with h2 | ⟨g, cap, cur, e1, e2, e3, e4⟩
          · exact Or.inl h2
          · exact Or.inr ⟨g, cap, cur, e1, e2, (hb2.block g (Array.getElem?_eq_some_iff.1 e3).1).trans e3, e4⟩
        have hls2 : ListAt (w2.alloc (.cells #[.int .i64 yk, .int .u64 yu, .slice a1 n1 c1, .float .f64 yf, .slice a2 n2 c2] 82)) w1.heap.size v' :=
          (HLS.out.kept (hb2.block _ (by omega))).kept (Below.heap_alloc _ _ _ (by omega))
        have hg4c := hls2.c4
        have HY := Lib.hid hy2
        have HB2 := Lib.hid hb2
        have HL2 := Lib.hid hls2
        have hqs : qs.length = kk := HQK.out
        have hvb : ∀ j, v'.ownBlock = some j → w1.heap.size + 1 ≤ j := fun j hj => (World.ownsRow.lt hown2 j hj).1
        have HVB := Lib.hid hvb
        have hless2 : t' < t2 := by
          have e1 := congrArg List.length hdr
          rw [List.length_drop] at e1
          rw [List.length_drop] at hless
          omega
        have HDR := Lib.hid hdr
        rw [hqs] at hown2
        obtain ⟨va, vc, rfl⟩ := own5_slice hown2
        clear hqs hy2 hb2 hls2 hvb hdr hless
        go_wp2_with (at_builtin; refine wpList_own_src _ rfl _ _ 80 80 rfl (w1.heap.size + 1) 82 i0 _ 5 72 Try.underlying80 hi hz0 hz1 hz2 rfl (by decide) _ _ _ rfl ((hown2.alloc _).alloc _) _ 1 _ rfl (five_src1 _ _ _ _ _ _ _ _ _ _ _) ?c3 ?c4 ?c5 ?_)
        case c3 => unfold maxLen; omega
        case c4 => omega
        case c5 => simp; omega
        intro v4 w4 hown4 hg4
        rw [← HQK.out] at hown4
        have hs4 := hg4.size
        simp at hs4
        have hl4 : ListAt w4 w1.heap.size (.slice va kk vc) := (HL2.out.kept (Below.heap_alloc _ _ _ (by simp; omega))).kept (hg4.gb.block _ (by simp; omega) (fun e => by have := HVB.out _ e.symm; omega))
        have hb4 : Below w1.heap.size w1 w4 := by
          exact Below.grown (((HBL.out.trans (HB2.out.mono (by omega))).alloc (by omega) _).alloc (by simp; omega) _) hg4.gb (by simp; omega) (fun j hj => by have := HVB.out j hj; omega)
        have hr4 := (Rows5.more (q := ⟨_, _, _, _, _⟩) HRW.out (by omega) (by omega) (kb_any (HB2.out.alloc (by omega) _) (some w1.heap.size)) (ReadsS.kept (fun j hj => ⟨⟨hj.1, by simp; omega⟩, Below.heap_alloc _ _ _ hj.2⟩) n _ _ HY.out) hg4 hown4).set (b := w1.heap.size) (by omega) v4
        obtain ⟨v4a, v4c, rfl⟩ := own5_slice hown4
        have hc4 := hl4.c4
        have hz4 := hl4.z4
        have HR4 := Lib.hid hr4
        have HL4 := Lib.hid (hl4.set (.slice v4a (qs.length + 1) v4c))
        have HB4 := Lib.hid (hb4.setCell (p := ⟨w1.heap.size, 4, none⟩) (by simp) (.slice v4a (qs.length + 1) v4c))
        clear hown2 hown4 hg4 hr4 hl4 hb4 hg4c
        go_wp2_with fail
        go_roundw
        case rel => exact ⟨kk + 1, _, _, t2, _, by omega, rfl, by go_num, by omega, ht2, by have := HQK.out; simp; omega, by omega, HR4.out, HL4.out, HB4.out, by simp; omega, by rw [listAcc_more, HDR.out]; exact HAC2.out⟩
        case measure => simp [intOf]; omega
    · have hkm2 : kk = m := by omega
      subst hkm2
      have hac := HAC.out
      rw [Nat.sub_self] at hac
      simp only [listD, listAcc, List.append_nil] at hac
      subst hac
      obtain ⟨va, vc, rfl⟩ := own5_slice HRW.out.own
      have HS2 := Lib.hid (HS.out.step HBL.out)
      obtain ⟨⟨c0, c1, c2, c3, c4⟩, z0, z1, z2, z3, z4⟩ := five_cells HS2.out.blk
      obtain ⟨l0, l1, l2, l3, l4, _⟩ := HLS.out
      go_wp2_with fail
      obtain ⟨r0, r1, r2, r3, r4⟩ := set5_cells c0 c1 c2 c3 c4 (.int .i64 3) (.int .u64 0) (.slice none 0 0) (.float .f64 0) (.slice va qs.length vc)
      unfold set5 at r0 r1 r2 r3 r4
      have hlen := HRW.out.len
      have hx := RStart.reads (w := w) (w1 := wr) (n := n + 1) (x := .mk 3 0 [] 0 ys) (v0 := .int .i64 3) (v1 := .int .u64 0) (v2 := .slice none 0 0) (v3 := .float .f64 0) (v4 := .slice va qs.length vc)
        (ReadsS.kept (S := fun j => w1.heap.size + 1 ≤ j ∧ j < wr.heap.size) (fun j hj => ⟨⟨by omega, hj.2⟩, rfl⟩) (n + 1) _ _ ⟨_, _, rfl, by omega, by omega, by simp, by have := HQK.out; omega, Or.inl ⟨rfl, rfl⟩, HRW.out.list⟩)
      exact bodyPost_ret (v := .tuple #[.agg #[.int .i64 3, .int .u64 0, .slice none 0 0, .float .f64 0, .slice va qs.length vc], .int .i64 (t' : Nat), .int .i64 0]) (by simp [results, Try.results89, go_sem, r0, r1, r2, r3, r4]) rfl
        ⟨_, t', rfl, by omega, htu, rfl, hx, HS2.out.fin _ _ _ _ _⟩
theorem rvalue_ok : ∀ n, RValueOk n
  | 0 => rvalue_deep
  | n + 1 => by
    intro s t a w ha hl ht
    simp only [valD]
    cases hh : headD (s.drop t) with
    | error c => exact rvalue_head (n + 1) s t a w (by omega) hl c hh
    | ok p =>
      obtain ⟨k, m, r⟩ := p
      simp only
      by_cases h0 : k = 0
      · subst h0
        rw [if_pos rfl]; exact rvalue_num n s r t a m w (by omega) hl ht hh
      rw [if_neg h0]
      by_cases h1 : k = 1
      · subst h1
        rw [if_pos rfl]
        by_cases hs : r.length < m
        · rw [if_pos hs]; exact rvalue_short n s r t a m w (by omega) hl ht hh hs
        · rw [if_neg hs]; exact rvalue_bytes n s r t a m w (by omega) hl ht hh (by omega)
      rw [if_neg h1]
      by_cases h2 : k = 2
      · subst h2
        rw [if_pos rfl]; exact rvalue_real n s r t a m w (by omega) hl ht hh
      · rw [if_neg h2]; exact rvalue_list n (rvalue_ok n) s r t a k m w ha hl ht hh h0 h1 h2
end Go.Proofs.Ytdolonkeanlaoaa
namespace Go.Proofs.Ytdolonkeanlaoaa
open Go.RowKit

def RDecAnswers (w : World) (r : Except Int Val) (e : Ending) (w' : World) : Prop :=
  match r with
  | .ok x => ∃ v, e = .returned (.tuple #[v, .int .i64 0]) ∧ ReadsS (fun k => w.heap.size ≤ k ∧ k < w'.heap.size) w' 16 v x ∧ Below w.heap.size w w'
  | .error c => e = .returned (.tuple #[.agg #[.int .i64 0, .int .u64 0, .slice none 0 0, .float .f64 0, .slice none 0 0], .int .i64 c]) ∧ c ≠ 0 ∧ Below w.heap.size w w'
set_option maxRecDepth 100000 in
set_option maxHeartbeats 1000000 in
theorem rdecode_long (s : List UInt8) (w : World) (hl : 1048576 < s.length) (hm : s.length ≤ 281474976710656) :
    Calls Try.prog 66 #[.string ⟨s.toArray⟩] w (RDecAnswers w (.error 2)) := by
  have hst := run_storeF
  have H5 := Lib.hid (five_cells (new_five w #[.int .i64 0, .int .u64 0, .slice none 0 0, .float .f64 0, .slice none 0 0] 82))
  go_enter Try.func66, Try.ntmps66
  obtain ⟨⟨c0, c1, c2, c3, c4⟩, z0, z1, z2, z3, z4⟩ := H5.out
  go_wp2_with fail
  exact bodyPost_ret (v := .tuple #[.agg #[.int .i64 0, .int .u64 0, .slice none 0 0, .float .f64 0, .slice none 0 0], .int .i64 2]) (by simp [results, Try.results66, go_sem, c0, c1, c2, c3, c4]) rfl
    ⟨rfl, by decide, (Below.refl _ _).alloc (Nat.le_refl _) _⟩
set_option maxRecDepth 100000 in
set_option maxHeartbeats 1000000 in
theorem rdecode_fit (s : List UInt8) (w : World) (hl : s.length ≤ 1048576) :
    Calls Try.prog 66 #[.string ⟨s.toArray⟩] w (RDecAnswers w (match valD 16 s with
      | .ok (x, []) => .ok x
      | .ok (_, _ :: _) => .error 23
      | .error c => .error c)) := by
  have hst := run_storeF
  have HV := rvalue_ok 16 s 0 0 (w.alloc (.cells #[.int .i64 0, .int .u64 0, .slice none 0 0, .float .f64 0, .slice none 0 0] 82)) (by omega) hl (Nat.zero_le _)
  rw [List.drop_zero] at HV
  have H := Lib.hid HV
  clear HV
  generalize hy : valD 16 s = y at *
  clear hy
  cases y with
  | error c =>
    go_enter Try.func66, Try.ntmps66
    go_wp2_with fail
    refine H.out.mono ?_
    rintro e w1 ⟨t', rfl, hc0, hb⟩
    have hcb : (c == 0) = false := by rw [beq_eq_false_iff_ne]; exact hc0
    have HS := Lib.hid ((RStart.of hb).step ((Below.refl _ w1).alloc (Nat.le_refl _) (.cells #[.int .i64 0, .int .u64 0, .slice none 0 0, .float .f64 0, .slice none 0 0] 82)))
    obtain ⟨⟨c0, c1, c2, c3, c4⟩, z0, z1, z2, z3, z4⟩ := five_cells HS.out.blk
    have HC0 := Lib.hid hc0
    clear hb hc0
    go_wp2_with fail
    obtain ⟨r0, r1, r2, r3, r4⟩ := set5_cells c0 c1 c2 c3 c4 (.int .i64 0) (.int .u64 0) (.slice none 0 0) (.float .f64 0) (.slice none 0 0)
    unfold set5 at r0 r1 r2 r3 r4
    exact bodyPost_ret (v := .tuple #[.agg #[.int .i64 0, .int .u64 0, .slice none 0 0, .float .f64 0, .slice none 0 0], .int .i64 c]) (by simp [results, Try.results66, go_sem, r0, r1, r2, r3, r4]) rfl
      ⟨rfl, HC0.out, HS.out.fin _ _ _ _ _⟩
  | ok p =>
    obtain ⟨x, r⟩ := p
    go_enter Try.func66, Try.ntmps66
    go_wp2_with fail
    refine H.out.mono ?_
    rintro e w1 ⟨v, t', rfl, _, htu, hdr, hx, hb⟩
    obtain ⟨yk, yu, yb, yf, yl⟩ := x
    obtain ⟨a1, n1, p1, a2, n2, p2, rfl⟩ := hx.shape
    have HX := Lib.hid hx
    have HB := Lib.hid hb
    have HS := Lib.hid ((RStart.of hb).step ((Below.refl _ w1).alloc (Nat.le_refl _) (.cells #[.int .i64 yk, .int .u64 yu, .slice a1 n1 p1, .float .f64 yf, .slice a2 n2 p2] 82)))
    obtain ⟨⟨c0, c1, c2, c3, c4⟩, z0, z1, z2, z3, z4⟩ := five_cells HS.out.blk
    clear hb hx
    cases r with
    | nil =>
      have hlen : s.length ≤ t' := by
        have e := congrArg List.length hdr
        rw [List.length_drop] at e
        simp at e; omega
      have hd : decide ((t' : Int) < (s.length : Int)) = false := by simp; omega
      have hd2 : decide (t' < s.length) = false := by simp; omega
      clear hdr
      go_wp2_with fail
      obtain ⟨r0, r1, r2, r3, r4⟩ := set5_cells c0 c1 c2 c3 c4 (.int .i64 yk) (.int .u64 yu) (.slice a1 n1 p1) (.float .f64 yf) (.slice a2 n2 p2)
      unfold set5 at r0 r1 r2 r3 r4
      have hs1 := HB.out.size
      simp at hs1
      have hx2 := RStart.reads (w := w) (ReadsS.kept (S' := fun k => w.heap.size < k ∧ k < (w1.alloc (.cells #[.int .i64 yk, .int .u64 yu, .slice a1 n1 p1, .float .f64 yf, .slice a2 n2 p2] 82)).heap.size)
        (fun k hk => by simp at hk; exact ⟨⟨by omega, by simp; omega⟩, Below.heap_alloc _ _ _ hk.2⟩) 16 _ _ HX.out)
      exact bodyPost_ret (v := .tuple #[.agg #[.int .i64 yk, .int .u64 yu, .slice a1 n1 p1, .float .f64 yf, .slice a2 n2 p2], .int .i64 0]) (by simp [results, Try.results66, go_sem, r0, r1, r2, r3, r4]) rfl
        ⟨_, rfl, hx2, HS.out.fin _ _ _ _ _⟩
    | cons q r =>
      have hlen : t' < s.length := by
        have e := congrArg List.length hdr
        rw [List.length_drop] at e
        simp at e; omega
      have hd : decide ((t' : Int) < (s.length : Int)) = true := by simp; omega
      have hd2 : decide (t' < s.length) = true := by simp; omega
      clear hdr
      go_wp2_with fail
      obtain ⟨r0, r1, r2, r3, r4⟩ := set5_cells c0 c1 c2 c3 c4 (.int .i64 0) (.int .u64 0) (.slice none 0 0) (.float .f64 0) (.slice none 0 0)
      unfold set5 at r0 r1 r2 r3 r4
      exact bodyPost_ret (v := .tuple #[.agg #[.int .i64 0, .int .u64 0, .slice none 0 0, .float .f64 0, .slice none 0 0], .int .i64 23]) (by simp [results, Try.results66, go_sem, r0, r1, r2, r3, r4]) rfl
        ⟨rfl, by decide, HS.out.fin _ _ _ _ _⟩
theorem rdecode_any (s : List UInt8) (w : World) (hm : s.length ≤ 281474976710656) : Calls Try.prog 66 #[.string ⟨s.toArray⟩] w (RDecAnswers w (decR s)) := by
  unfold decR
  by_cases hl : 1048576 < s.length
  · rw [if_pos hl]; exact rdecode_long s w hl hm
  · rw [if_neg hl]; exact rdecode_fit s w (by omega)
end Go.Proofs.Ytdolonkeanlaoaa
namespace Go.Proofs.Ytdolonkeanlaoaa
open Go.RowKit

def Deep : Nat → Val → Prop
  | 0, _ => False
  | n + 1, .mk _ _ _ _ l => ∀ x ∈ l, Deep n x
theorem BytesIn.drewN {B : Nat} {w : World} {v : Value} {l : List UInt8} (h : BytesIn B w v l) (n : Nat) : BytesIn B (w.drewN n) v l := by
  rcases h with h | ⟨a, cap, h1, h2, h3⟩
  · exact Or.inl h
  · exact Or.inr ⟨a, cap, h1, h2, fun j u hj => by simpa [go_sem] using h3 j u hj⟩
theorem listD_all {g : List UInt8 → Except Int (Val × List UInt8)} {P : Val → Prop} (hg : ∀ {l x r}, g l = .ok (x, r) → P x) : ∀ (m : Nat) (l : List UInt8) {xs : List Val} {r : List UInt8}, listD g m l = .ok (xs, r) → ∀ x ∈ xs, P x
  | 0, l, xs, r, h => by simp only [listD] at h; injection h with h; injection h with h1 h2; subst h1; simp
  | m + 1, l, xs, r, h => by
    simp only [listD] at h
    cases hl : g l with
    | error c => rw [hl] at h; cases h
    | ok y =>
      obtain ⟨x, r1⟩ := y
      rw [hl] at h
      simp only at h
      cases hm : listD g m r1 with
      | error c => rw [hm] at h; cases h
      | ok z =>
        obtain ⟨ys, r2⟩ := z
        rw [hm] at h
        injection h with h
        injection h with h1 h2
        subst h1 h2
        intro y hy
        rcases List.mem_cons.1 hy with rfl | hy
        · exact hg hl
        · exact listD_all hg m r1 hm y hy
theorem valD_deep : ∀ {n : Nat} {l : List UInt8} {x : Val} {r : List UInt8}, valD n l = .ok (x, r) → Deep n x
  | 0, _, _, _, h => by simp only [valD] at h; cases h
  | n + 1, l, x, r, h => by
    simp only [valD] at h
    cases hh : headD l with
    | error c => rw [hh] at h; cases h
    | ok y =>
      obtain ⟨k, m, r1⟩ := y
      rw [hh] at h
      simp only at h
      split at h
      · injection h with h; injection h with h _; subst h; intro y hy; simp at hy
      split at h
      · split at h
        · cases h
        · injection h with h; injection h with h _; subst h; intro y hy; simp at hy
      split at h
      · cases hf : floatD m r1 with
        | error c => rw [hf] at h; cases h
        | ok z =>
          obtain ⟨f, r2⟩ := z
          rw [hf] at h
          injection h with h; injection h with h _; subst h; intro y hy; simp at hy
      · cases hd : listD (valD n) m r1 with
        | error c => rw [hd] at h; cases h
        | ok z =>
          obtain ⟨xs, r2⟩ := z
          rw [hd] at h
          injection h with h; injection h with h _; subst h
          exact listD_all (fun e => valD_deep e) m r1 hd
end Go.Proofs.Ytdolonkeanlaoaa
namespace Go.Proofs.Ytdolonkeanlaoaa
open Go.RowKit

set_option maxRecDepth 100000 in
set_option maxHeartbeats 400000 in
theorem num_any (n : Nat) (w : World) : Calls Try.prog 36 #[.int .u64 n] w fun e w' => e = .returned (.agg #[.int .i64 0, .int .u64 n, .slice none 0 0, .float .f64 0, .slice none 0 0]) ∧ Below w.heap.size w w' := by
  have hst := run_storeF
  go_enter Try.func36, Try.ntmps36
  go_wp2_with fail
  refine bodyPost_ret (v := .agg #[.int .i64 0, .int .u64 n, .slice none 0 0, .float .f64 0, .slice none 0 0]) (by simp [results, Try.results36, go_sem]) rfl ⟨rfl, ?_⟩
  exact (Below.refl _ w).alloc (Nat.le_refl _) _
set_option maxRecDepth 100000 in
set_option maxHeartbeats 400000 in
theorem real_any (f : Nat) (w : World) : Calls Try.prog 47 #[.float .f64 f] w fun e w' => e = .returned (.agg #[.int .i64 2, .int .u64 0, .slice none 0 0, .float .f64 (canonB f), .slice none 0 0]) ∧ Below w.heap.size w w' := by
  have hst := run_storeF
  have HC := Lib.hid (canon_any f)
  generalize canonB f = c at *
  go_enter Try.func47, Try.ntmps47
  go_wp2_with fail
  refine (HC.out _).mono ?_
  rintro e w' ⟨rfl, rfl⟩
  go_wp2_with fail
  refine bodyPost_ret (v := .agg #[.int .i64 2, .int .u64 0, .slice none 0 0, .float .f64 c, .slice none 0 0]) (by simp [results, Try.results47, go_sem]) rfl ⟨rfl, ?_⟩
  exact (Below.refl _ w).alloc (Nat.le_refl _) _
set_option maxRecDepth 100000 in
set_option maxHeartbeats 400000 in
theorem text_any (l : List UInt8) (w : World) (hl : l.length ≤ 1048576) : Calls Try.prog 48 #[.string ⟨l.toArray⟩] w fun e w' => ∃ v, e = .returned (.agg #[.int .i64 1, .int .u64 0, v, .float .f64 0, .slice none 0 0]) ∧
    BytesC (fun k => w.heap.size ≤ k ∧ k < w'.heap.size) w' v l ∧ Below w.heap.size w w' := by
  have hst := run_storeF
  obtain ⟨cap, w2, hcv, hbc, hbl, hs2⟩ := conv_new (w.alloc (.cells #[.int .i64 0, .int .u64 0, .slice none 0 0, .float .f64 0, .slice none 0 0] 82)) l hl
  have hsa : (w.alloc (.cells #[.int .i64 0, .int .u64 0, .slice none 0 0, .float .f64 0, .slice none 0 0] 82)).heap.size = w.heap.size + 1 := by simp
  rw [hsa] at hcv hbc hs2
  have hst1 : RStart w w2 := RStart.of hbl
  obtain ⟨⟨c0, c1, c2, c3, c4⟩, z0, z1, z2, z3, z4⟩ := five_cells hst1.blk
  have HB := Lib.hid hst1
  have HC := Lib.hid hbc
  have HS := Lib.hid hs2
  clear hbc hbl hsa hs2 hst1
  go_enter Try.func48, Try.ntmps48
  go_wp2_with fail
  obtain ⟨r0, r1, r2, r3, r4⟩ := set5_cells c0 c1 c2 c3 c4 (.int .i64 1) (.int .u64 0) (.slice (some ⟨w.heap.size + 1, 0, none⟩) l.length cap) (.float .f64 0) (.slice none 0 0)
  unfold set5 at r0 r1 r2 r3 r4
  refine bodyPost_ret (v := .agg #[.int .i64 1, .int .u64 0, .slice (some ⟨w.heap.size + 1, 0, none⟩) l.length cap, .float .f64 0, .slice none 0 0]) (by simp [results, Try.results48, go_sem, r0, r1, r2, r3, r4]) rfl ⟨_, rfl, ?_, HB.out.fin _ _ _ _ _⟩
  refine HC.out.kept (w' := set5 w2 w.heap.size (.int .i64 1) (.int .u64 0) (.slice (some ⟨w.heap.size + 1, 0, none⟩) l.length cap) (.float .f64 0) (.slice none 0 0)) (fun k hk => ⟨⟨by omega, ?_⟩, set5_block _ _ _ _ _ _ _ _ (by omega)⟩)
  have e := set5_size w2 w.heap.size (.int .i64 1) (.int .u64 0) (.slice (some ⟨w.heap.size + 1, 0, none⟩) l.length cap) (.float .f64 0) (.slice none 0 0)
  unfold set5 at e
  omega
def CopyOk (n : Nat) : Prop := ∀ (S : Nat → Prop) (vl : Value) (l : List Val) (w : World), (∀ k, S k → k < w.heap.size) → l.length ≤ 1048576 → (∀ x ∈ l, Deep n x) → ListS S w (ReadsS S w n) vl l →
    Calls Try.prog 92 #[vl] w fun e w' => ∃ v, e = .returned v ∧ ListS (fun k => w.heap.size ≤ k ∧ k < w'.heap.size) w' (ReadsS (fun k => w.heap.size ≤ k ∧ k < w'.heap.size) w' n) v l ∧ Below w.heap.size w w'
set_option maxRecDepth 100000 in
set_option maxHeartbeats 400000 in
theorem copy_none (n : Nat) (a : Option Addr) (c : Nat) (w : World) : Calls Try.prog 92 #[.slice a 0 c] w fun e w' => ∃ v, e = .returned v ∧ ListS (fun k => w.heap.size ≤ k ∧ k < w'.heap.size) w' (ReadsS (fun k => w.heap.size ≤ k ∧ k < w'.heap.size) w' n) v [] ∧ Below w.heap.size w w' := by
  go_enter Try.func92, Try.ntmps92
  go_wp2_with fail
  go_loopw [3, 8] (fun v i wr => v = .slice none 0 0 ∧ i = .int .i64 0 ∧ wr = w) (fun _ _ _ => 0)
  case atStart => exact ⟨rfl, rfl, rfl⟩
  case round =>
    obtain ⟨rfl, rfl, rfl⟩ := hrel
    go_wp2_with fail
    go_ret
    exact ⟨_, rfl, Or.inl ⟨rfl, rfl⟩, Below.refl _ _⟩
theorem ListS.kept {S S' : Nat → Prop} {w w' : World} {n : Nat} {v : Value} {l : List Val} (hl : l.length ≤ 1048576) (h : ListS S w (ReadsS S w n) v l) (hk : ∀ k, S k → S' k ∧ w'.heap[k]? = w.heap[k]?) : ListS S' w' (ReadsS S' w' n) v l := by
  have h1 : ReadsS S w (n + 1) (.agg #[.int .i64 0, .int .u64 (0 : Nat), .slice none 0 0, .float .f64 0, v]) (.mk 0 0 [] 0 l) := ⟨_, _, rfl, by omega, by omega, by simp, hl, Or.inl ⟨rfl, rfl⟩, h⟩
  obtain ⟨vb, vl, e, _, _, _, _, _, h2⟩ := ReadsS.kept hk (n + 1) _ _ h1
  injection e with e
  have e2 : [Value.int .i64 0, .int .u64 (0 : Nat), .slice none 0 0, .float .f64 0, v] = [.int .i64 0, .int .u64 (0 : Nat), vb, .float .f64 0, vl] := by injection e
  injection e2 with _ e2
  injection e2 with _ e2
  injection e2 with _ e2
  injection e2 with _ e2
  injection e2 with e2 _
  rw [e2]; exact h2
theorem Rows5.grow {B : Nat} {w w2 w4 : World} {n : Nat} {v v' : Value} {qs : List Five} {ys : List Val} {q : Five} {y : Val} {o : Obj} (h : Rows5 B w n v qs ys) (hB : B ≤ w.heap.size) (hs2 : w.heap.size ≤ w2.heap.size) (hk : ∀ k, B ≤ k → k < w.heap.size → w2.heap[k]? = w.heap[k]?)
    (hy : ReadsS (fun k => w.heap.size ≤ k ∧ k < w2.heap.size) w2 n q.agg y) (hg : Grew (w2.alloc o) w4 v v') (hown : w4.ownsRow B 82 5 v' (qs.length + 1) (qs.flatMap Five.flat ++ q.flat)) : Rows5 B w4 n v' (qs ++ [q]) (ys ++ [y]) := by
  have hs4 := hg.size
  simp at hs4
  have hvb : ∀ k, v.ownBlock = some k → B ≤ k ∧ k < w.heap.size := fun k hk => World.ownsRow.lt h.own k hk
  have keep : ∀ k, B ≤ k → k < w2.heap.size → v.ownBlock ≠ some k → (B ≤ k ∧ k < w4.heap.size ∧ v'.ownBlock ≠ some k) ∧ w4.heap[k]? = w2.heap[k]? := by
    intro k k1 k2 k3
    refine ⟨⟨k1, by omega, fun e => ?_⟩, ?_⟩
    · rcases hg.own k e with e2 | e2
      · exact k3 e2
      · simp at e2; omega
    · rw [hg.gb.block k (by simp; omega) (fun e => k3 e.symm), Below.heap_alloc _ _ _ k2]
  refine ⟨?_, by simp [h.len], fun j p z hp hz => ?_⟩
  · rw [List.flatMap_append, List.length_append]; simpa using hown
  · by_cases hj : j < qs.length
    · rw [List.getElem?_append_left hj] at hp
      rw [List.getElem?_append_left (by rw [← h.len]; exact hj)] at hz
      refine ReadsS.kept (fun k hk1 => ?_) n _ _ (h.each j p z hp hz)
      obtain ⟨k1, k2, k3⟩ := hk1
      have a := keep k k1 (by omega) k3
      exact ⟨a.1, a.2.trans (hk k k1 k2)⟩
    · have hj2 : j = qs.length := by
        have := (List.getElem?_eq_some_iff.1 hp).1
        simp at this; omega
      subst hj2
      rw [List.getElem?_append_right (Nat.le_refl _), Nat.sub_self] at hp
      rw [h.len, List.getElem?_append_right (Nat.le_refl _), Nat.sub_self] at hz
      simp at hp hz
      subst hp hz
      refine ReadsS.kept (fun k hk1 => ?_) n _ _ hy
      exact keep k (by omega) hk1.2 (fun e => by have := hvb k e; omega)
set_option maxRecDepth 100000 in
set_option maxHeartbeats 2000000 in
theorem copy_step (n : Nat) (hIH : CopyOk n) : CopyOk (n + 1) := by
  intro S vl l w hS hl hD hL
  have hst := run_storeF
  obtain ⟨i0, hi, hz0, hz1, hz2⟩ := info_parts Try.info82
  obtain ⟨sa, sc, rfl⟩ := hL.shape
  have HS := Lib.hid hS
  have HD := Lib.hid hD
  have HL := Lib.hid hL
  have HI := Lib.hid hIH
  clear hS hD hL hIH
  go_enter Try.func92, Try.ntmps92
  go_wp2_with fail
  go_loopw [3, 8] (fun v i wr => ∃ (k : Nat) (qs : List Five), k ≤ l.length ∧ i = .int .i64 k ∧ qs.length = k ∧ Rows5 w.heap.size wr (n + 1) v qs (l.take k) ∧ Below w.heap.size w wr)
    (fun _ i _ => l.length - (intOf i).toNat)
  case atStart => exact ⟨0, [], Nat.zero_le _, rfl, rfl, Rows5.nil _ _ _, Below.refl _ _⟩
  case round =>
    obtain ⟨k, qs, hk, rfl, hqk, hrows, hbel⟩ := hrel
    have HRW := Lib.hid hrows
    have HBL := Lib.hid hbel
    have HQK := Lib.hid hqk
    have hsz := hbel.size
    clear hrows hqk
    by_cases hlt : k < l.length
    · rcases HL.out with ⟨_, h0⟩ | ⟨g, o, cap, hv, hlc, hcm, hSg, hc⟩
      · rw [h0] at hlt; simp at hlt
      obtain ⟨x, hx⟩ : ∃ x, l[k]? = some x := ⟨_, List.getElem?_eq_getElem hlt⟩
      have HDX := Lib.hid (HD.out x (List.mem_of_getElem? hx))
      have HTK : Hid (l.take (k + 1) = l.take k ++ [x]) := Lib.hid (by
        rw [List.take_succ_eq_append_getElem hlt]
        rw [List.getElem?_eq_getElem hlt] at hx
        injection hx with hx
        rw [hx])
      obtain ⟨c0, c1, c2, c3, c4, e0, e1, e2, e3, e4, hR⟩ := hc k x hx
      injection hv with hv1 _ hv2
      subst hv1 hv2
      have hgw := HS.out g hSg
      have d0 := (hbel.cell (p := ⟨g, o + k * 5, none⟩) hgw).trans e0
      have d1 := (hbel.cell (p := ⟨g, o + k * 5 + 1, none⟩) hgw).trans e1
      have d2 := (hbel.cell (p := ⟨g, o + k * 5 + 2, none⟩) hgw).trans e2
      have d3 := (hbel.cell (p := ⟨g, o + k * 5 + 3, none⟩) hgw).trans e3
      have d4 := (hbel.cell (p := ⟨g, o + k * 5 + 4, none⟩) hgw).trans e4
      obtain ⟨xk, xu, xb, xf, xl⟩ := x
      obtain ⟨vb, vl, hag, hu, hf, hbl, hll, hB, hLL⟩ := hR
      have hsh2 : [c0, c1, c2, c3, c4] = [.int .i64 xk, .int .u64 xu, vb, .float .f64 xf, vl] := by
        injection hag with hag; injection hag
      injection hsh2 with s0 hsh2
      injection hsh2 with s1 hsh2
      injection hsh2 with s2 hsh2
      injection hsh2 with s3 hsh2
      injection hsh2 with s4 hsh2
      subst s0 s1 s2 s3 s4
      obtain ⟨ba, bc, rfl⟩ := hB.shape
      obtain ⟨la, lc, rfl⟩ := hLL.shape
      have HB := Lib.hid hB
      have HLL := Lib.hid hLL
      have HU := Lib.hid hu
      have HF := Lib.hid hf
      clear e0 e1 e2 e3 e4 hag hsh2 hB hLL hc hx hu hf
      have keep : ∀ (w' : World), (∀ j, j < w.heap.size → w'.heap[j]? = wr.heap[j]?) → ∀ j, S j → S j ∧ w'.heap[j]? = w.heap[j]? := fun w' h j hj => ⟨hj, (h j (HS.out j hj)).trans (HBL.out.block j (HS.out j hj))⟩
      have HK := Lib.hid keep
      clear keep
      go_wp2_with fail
      have hbw1 : ∀ j, j < wr.heap.size → (wr.alloc (.cells #[.int .i64 xk, .int .u64 xu, .slice ba xb.length bc, .float .f64 xf, .slice la xl.length lc] 82)).heap[j]? = wr.heap[j]? := fun j hj => Below.heap_alloc _ _ _ hj
      refine (clone_any S _ xb _ hbl (fun j hj => by have := HS.out j hj; simp; omega) (HB.out.kept (HK.out _ (fun j hj => hbw1 j (by omega))))).mono ?_
      rintro e w2 ⟨v2, rfl, hb2, hbe2⟩
      have hs2 := hbe2.size
      simp at hs2
      obtain ⟨va, vc, rfl⟩ := hb2.shape
      have hblk2 := (hbe2.block wr.heap.size (by simp)).trans (new_five wr _ _)
      have hbw2 : ∀ j, j < wr.heap.size → w2.heap[j]? = wr.heap[j]? := fun j hj => (hbe2.block j (by simp; omega)).trans (hbw1 j hj)
      obtain ⟨⟨p0, p1, p2, p3, p4⟩, z0, z1, z2, z3, z4⟩ := five_cells hblk2
      have HB2 := Lib.hid hb2
      have HBW2 := Lib.hid hbw2
      have HBE2 := Lib.hid hbe2
      clear hb2 hbe2 hblk2 hbw2 hbw1 d0 d1 d2 d3 d4
      have hbw3 : ∀ j, j < wr.heap.size → (w2.setCell ⟨wr.heap.size, 2, none⟩ (.slice va xb.length vc)).heap[j]? = wr.heap[j]? := fun j hj => (Below.heap_setCell _ _ _ _ (by simp; omega)).trans (HBW2.out j hj)
      have HR := Lib.hid (HI.out S (.slice la xl.length lc) xl (w2.setCell ⟨wr.heap.size, 2, none⟩ (.slice va xb.length vc)) (fun j hj => by have := HS.out j hj; simp; omega) hll HDX.out
        (HLL.out.kept hll (HK.out _ (fun j hj => hbw3 j (by omega)))))
      have q0 : (w2.setCell ⟨wr.heap.size, 2, none⟩ (.slice va xb.length vc)).cell? ⟨wr.heap.size, 0, none⟩ = some (.int .i64 xk) := by simpa [go_sem] using p0
      have q1 : (w2.setCell ⟨wr.heap.size, 2, none⟩ (.slice va xb.length vc)).cell? ⟨wr.heap.size, 1, none⟩ = some (.int .u64 xu) := by simpa [go_sem] using p1
      have q2 : (w2.setCell ⟨wr.heap.size, 2, none⟩ (.slice va xb.length vc)).cell? ⟨wr.heap.size, 2, none⟩ = some (.slice va xb.length vc) := World.cell?_setCell_same _ _ _ p2
      have q3 : (w2.setCell ⟨wr.heap.size, 2, none⟩ (.slice va xb.length vc)).cell? ⟨wr.heap.size, 3, none⟩ = some (.float .f64 xf) := by simpa [go_sem] using p3
      have q4 : (w2.setCell ⟨wr.heap.size, 2, none⟩ (.slice va xb.length vc)).cell? ⟨wr.heap.size, 4, none⟩ = some (.slice la xl.length lc) := by simpa [go_sem] using p4
      have y4 : (w2.setCell ⟨wr.heap.size, 2, none⟩ (.slice va xb.length vc)).frozen? ⟨wr.heap.size, 4, none⟩ = false := by simpa [go_sem] using z4
      have Q := Lib.hid (And.intro q0 (And.intro q1 (And.intro q2 (And.intro q3 (And.intro q4 y4)))))
      have HBW3 := Lib.hid hbw3
      have HB3 := Lib.hid (((HBL.out.alloc (by omega) _).trans (HBE2.out.mono (by simp; omega))).setCell (p := ⟨wr.heap.size, 2, none⟩) (by simp; omega) (.slice va xb.length vc))
      have hs3 : (w2.setCell ⟨wr.heap.size, 2, none⟩ (.slice va xb.length vc)).heap.size = w2.heap.size := by simp
      have HS3 := Lib.hid hs3
      have hw3b : ∀ j, j ≠ wr.heap.size → (w2.setCell ⟨wr.heap.size, 2, none⟩ (.slice va xb.length vc)).heap[j]? = w2.heap[j]? := fun j hj => Below.heap_setCell _ _ _ _ hj
      have HW3B := Lib.hid hw3b
      clear q0 q1 q2 q3 q4 y4 hbw3 hs3 hw3b
      go_wp2_with fail
      clear p0 p1 p2 p3 p4 z0 z1 z2 z3 z4
      generalize w2.setCell ⟨wr.heap.size, 2, none⟩ (.slice va xb.length vc) = w3 at *
      refine HR.out.mono ?_
      rintro e w4 ⟨v4, rfl, hl4, hbe4⟩
      obtain ⟨v4a, v4c, rfl⟩ := hl4.shape
      have hs4 := hbe4.size
      have hs3 := HS3.out
      obtain ⟨q0, q1, q2, q3, q4, y4⟩ := Q.out
      have p0 := (hbe4.cell (p := ⟨wr.heap.size, 0, none⟩) (by show wr.heap.size < _; omega)).trans q0
      have p1 := (hbe4.cell (p := ⟨wr.heap.size, 1, none⟩) (by show wr.heap.size < _; omega)).trans q1
      have p2 := (hbe4.cell (p := ⟨wr.heap.size, 2, none⟩) (by show wr.heap.size < _; omega)).trans q2
      have p3 := (hbe4.cell (p := ⟨wr.heap.size, 3, none⟩) (by show wr.heap.size < _; omega)).trans q3
      have p4 := (hbe4.cell (p := ⟨wr.heap.size, 4, none⟩) (by show wr.heap.size < _; omega)).trans q4
      have z4 := (hbe4.frozen (p := ⟨wr.heap.size, 4, none⟩) (by show wr.heap.size < _; omega)).trans y4
      have hbw4 : ∀ j, j < wr.heap.size → (w4.setCell ⟨wr.heap.size, 4, none⟩ (.slice v4a xl.length v4c)).heap[j]? = wr.heap[j]? := fun j hj =>
        (Below.heap_setCell _ _ _ _ (by simp; omega)).trans ((hbe4.block j (by omega)).trans (HBW3.out j hj))
      have hreads : ReadsS (fun j => wr.heap.size ≤ j ∧ j < w4.heap.size) (w4.setCell ⟨wr.heap.size, 4, none⟩ (.slice v4a xl.length v4c)) (n + 1) (.agg #[.int .i64 xk, .int .u64 xu, .slice va xb.length vc, .float .f64 xf, .slice v4a xl.length v4c]) (.mk xk xu xb xf xl) := by
        refine ⟨_, _, rfl, HU.out, HF.out, hbl, hll, ?_, ?_⟩
        · refine HB2.out.kept (fun j hj => ?_)
          simp at hj
          refine ⟨⟨by omega, by omega⟩, ?_⟩
          exact (Below.heap_setCell _ _ _ _ (by simp; omega)).trans ((hbe4.block j (by omega)).trans (HW3B.out j (by omega)))
        · exact hl4.kept hll (fun j hj => ⟨⟨by omega, hj.2⟩, Below.heap_setCell _ _ _ _ (by simp; omega)⟩)
      have hs5 : (w4.setCell ⟨wr.heap.size, 4, none⟩ (.slice v4a xl.length v4c)).heap.size = w4.heap.size := by simp
      rw [← hs5] at hreads
      have HRD := Lib.hid hreads
      have HBW4 := Lib.hid hbw4
      have hown0 : (w4.setCell ⟨wr.heap.size, 4, none⟩ (.slice v4a xl.length v4c)).ownsRow w.heap.size 82 5 u3 qs.length (qs.flatMap Five.flat) := own_below HRW.out.own (fun j _ hj => hbw4 j hj)
      have HBE := Lib.hid ((HB3.out.trans (hbe4.mono (by omega))).setCell (p := ⟨wr.heap.size, 4, none⟩) (by simp; omega) (.slice v4a xl.length v4c))
      have hsrc := five_src (w4.setCell ⟨wr.heap.size, 4, none⟩ (.slice v4a xl.length v4c)) xk xu va v4a xb.length vc xl.length v4c xf
      rw [hs5] at hsrc
      rw [HQK.out] at hown0
      clear hreads hbw4 hbe4 hl4 hs5 q0 q1 q2 q3 q4 y4
      go_wp2_with (at_builtin; refine wpList_own_src _ rfl _ _ 80 80 rfl w.heap.size 82 i0 _ 5 72 Try.underlying80 hi hz0 hz1 hz2 rfl (by decide) _ _ _ rfl (hown0.alloc _) _ 1 _ rfl hsrc ?c3 ?c4 ?c5 ?_)
      case c3 => unfold maxLen; omega
      case c4 => omega
      case c5 => simp; omega
      intro v6 w6 hown6 hg6
      have hvb : ∀ j, u3.ownBlock = some j → w.heap.size ≤ j := fun j hj => (World.ownsRow.lt hown0 j hj).1
      rw [← HQK.out] at hown6
      have HN := Lib.hid (Rows5.grow (q := ⟨_, _, _, _, _⟩) HRW.out hsz (by simp; omega) (fun j _ hj => HBW4.out j hj) HRD.out hg6 hown6)
      have HBN := Lib.hid ((HBE.out.alloc (by simp; omega) _).grown hg6.gb (by simp; omega) hvb)
      clear hown0 hown6 hg6 hvb hsrc p0 p1 p2 p3 p4 z4
      go_wp2_with fail
      go_roundw
      case rel => exact ⟨k + 1, qs ++ [⟨.int .i64 xk, .int .u64 xu, .slice va xb.length vc, .float .f64 xf, .slice v4a xl.length v4c⟩], by omega, by go_num, by have := HQK.out; simp; omega, by rw [HTK.out]; exact HN.out, HBN.out⟩
      case measure => simp [intOf]; omega
    · have hkl : k = l.length := by omega
      subst hkl
      go_wp2_with fail
      go_ret
      have hr := HRW.out.list
      rw [List.take_length] at hr
      exact ⟨_, rfl, hr, HBL.out⟩
theorem copy_ok : ∀ n, CopyOk n
  | 0 => by
    intro S vl l w _ _ hD hL
    have e : l = [] := by
      cases l with
      | nil => rfl
      | cons x l => exact (hD x (List.mem_cons_self)).elim
    subst e
    obtain ⟨sa, sc, rfl⟩ := hL.shape
    exact copy_none 0 sa sc w
  | n + 1 => copy_step n (copy_ok n)
set_option maxRecDepth 100000 in
set_option maxHeartbeats 400000 in
theorem row_any (n : Nat) (S : Nat → Prop) (vl : Value) (l : List Val) (w : World) (hS : ∀ k, S k → k < w.heap.size) (hl : l.length ≤ 1048576) (hD : ∀ x ∈ l, Deep n x) (hL : ListS S w (ReadsS S w n) vl l) :
    Calls Try.prog 71 #[vl] w fun e w' => ∃ v, e = .returned (.agg #[.int .i64 3, .int .u64 0, .slice none 0 0, .float .f64 0, v]) ∧ ListS (fun k => w.heap.size ≤ k ∧ k < w'.heap.size) w' (ReadsS (fun k => w.heap.size ≤ k ∧ k < w'.heap.size) w' n) v l ∧ Below w.heap.size w w' := by
  have hst := run_storeF
  have HC := Lib.hid (copy_ok n S vl l (w.alloc (.cells #[.int .i64 0, .int .u64 0, .slice none 0 0, .float .f64 0, .slice none 0 0] 82)) (fun k hk => by have := hS k hk; simp; omega) hl hD (hL.kept hl (fun k hk => ⟨hk, Below.heap_alloc _ _ _ (hS k hk)⟩)))
  clear hL hD hS
  go_enter Try.func71, Try.ntmps71
  go_wp2_with fail
  refine HC.out.mono ?_
  rintro e w2 ⟨v, rfl, hv, hb⟩
  obtain ⟨va, vc, rfl⟩ := hv.shape
  have hst1 : RStart w w2 := RStart.of hb
  obtain ⟨⟨c0, c1, c2, c3, c4⟩, z0, z1, z2, z3, z4⟩ := five_cells hst1.blk
  have HB := Lib.hid hst1
  have HV := Lib.hid hv
  clear hb hv hst1
  go_wp2_with fail
  obtain ⟨r0, r1, r2, r3, r4⟩ := set5_cells c0 c1 c2 c3 c4 (.int .i64 3) (.int .u64 0) (.slice none 0 0) (.float .f64 0) (.slice va l.length vc)
  unfold set5 at r0 r1 r2 r3 r4
  have hfin : ListS (fun k => w.heap.size ≤ k ∧ k < (set5 w2 w.heap.size (.int .i64 3) (.int .u64 0) (.slice none 0 0) (.float .f64 0) (.slice va l.length vc)).heap.size) (set5 w2 w.heap.size (.int .i64 3) (.int .u64 0) (.slice none 0 0) (.float .f64 0) (.slice va l.length vc))
      (ReadsS (fun k => w.heap.size ≤ k ∧ k < (set5 w2 w.heap.size (.int .i64 3) (.int .u64 0) (.slice none 0 0) (.float .f64 0) (.slice va l.length vc)).heap.size) (set5 w2 w.heap.size (.int .i64 3) (.int .u64 0) (.slice none 0 0) (.float .f64 0) (.slice va l.length vc)) n) (.slice va l.length vc) l :=
    HV.out.kept hl (fun k hk => by simp at hk; exact ⟨⟨by omega, by rw [set5_size]; omega⟩, set5_block _ _ _ _ _ _ _ _ (by omega)⟩)
  exact bodyPost_ret (v := .agg #[.int .i64 3, .int .u64 0, .slice none 0 0, .float .f64 0, .slice va l.length vc]) (by simp [results, Try.results71, go_sem, r0, r1, r2, r3, r4]) rfl ⟨_, rfl, hfin, HB.out.fin _ _ _ _ _⟩
end Go.Proofs.Ytdolonkeanlaoaa
