/- The walk of the law LinesDiffer. -/
import Derived.Test.YtpjhgejjjilhbaaLinX
import Derived.ChangeKeysEq
namespace Go.Proofs.Ytpjhgejjjilhbaa
open Go.RowKit

theorem eq_two (W : World) (x y : Int) : (Op.equalIn 10000 46 (.agg #[.int .i64 x, .int .i64 y]) (.agg #[.int .i64 x, .int .i64 y])).run Try.prog W = .ok true W := by
  obtain ⟨i0, hi, hz0, hz1, hz2⟩ := info_parts Try.info3i
  have hu : Try.prog.underlying 46 = some (.array 2 3) := by kernel_rfl
  have hc : Try.prog.cellsOf 3 = 1 := by kernel_rfl
  have hui : Try.prog.underlying 3 = some (.int .i64) := by kernel_rfl
  have hp0 : ∀ W, (part 3 #[.int .i64 x, .int .i64 y] 0).run Try.prog W = .ok (.int .i64 x) W := fun W => by kernel_rfl
  have hp1 : ∀ W, (part 3 #[.int .i64 x, .int .i64 y] 1).run Try.prog W = .ok (.int .i64 y) W := fun W => by kernel_rfl
  rw [show (10000 : Nat) = 9998 + 1 + 1 from rfl, run_equalIn_array W 9999 _ _ hu hi, hc]
  rw [show List.range 2 = [0, 1] from rfl]
  simp only [Op.eqItems, Sem.run_bind, hp0, Nat.zero_mul, Nat.one_mul, Result.andThen_ok]
  rw [run_equalIn_int W 9998 _ .i64 .i64 x x hui, Result.andThen_ok]
  simp only [beq_self_eq_true, Bool.not_true, Bool.false_eq_true, if_false, Sem.run_bind, hp1, Result.andThen_ok]
  rw [run_equalIn_int W 9998 _ .i64 .i64 y y hui, Result.andThen_ok]
  simp
set_option maxRecDepth 100000 in
set_option maxHeartbeats 8000000 in
theorem ldiffer_law (S T : Nat → Prop) (va vb : Value) (a b : List (List UInt8)) (w : World) (hS : ∀ k, S k → k < w.heap.size) (hT : ∀ k, T k → k < w.heap.size) (ha : StrsC S w va a) (hb : StrsC T w vb b) (hsa : sumL a ≤ 1048576) (hsb : sumL b ≤ 1048576) :
    Calls Try.prog 4 #[va, vb] w (TrueP w) := by
  unfold TrueP
  obtain ⟨hal, hax⟩ := sum_bounds hsa
  obtain ⟨hbl, hbx⟩ := sum_bounds hsb
  obtain ⟨aa, ac, rfl⟩ := ha.shape
  obtain ⟨ba, bc, rfl⟩ := hb.shape
  have HS := Lib.hid (fun (n : Nat) (h : w.heap.size ≤ n) k (hk : S k) => Nat.lt_of_lt_of_le (hS k hk) h)
  have HT := Lib.hid (fun (n : Nat) (h : w.heap.size ≤ n) k (hk : T k) => Nat.lt_of_lt_of_le (hT k hk) h)
  have HA := Lib.hid (fun (W : World) (hb : ∀ k, k < w.heap.size → W.heap[k]? = w.heap[k]?) => ha.kept (S' := S) (w' := W) (fun k hk => ⟨hk, hb k (hS k hk)⟩))
  have HB := Lib.hid (fun (W : World) (hc : ∀ k, k < w.heap.size → W.heap[k]? = w.heap[k]?) => hb.kept (S' := T) (w' := W) (fun k hk => ⟨hk, hc k (hT k hk)⟩))
  have HAX := Lib.hid hax
  have HBX := Lib.hid hbx
  clear hS hT ha hb hsa hsb hax hbx
  go_enter Try.func4, Try.ntmps4
  go_wp2_with fail
  refine (awake7_any _).mono ?_
  rintro e w1 ⟨rfl, hb1⟩
  have B1 := Lib.hid hb1
  have hs1 := hb1.size
  clear hb1
  by_cases hm : a.length * b.length ≤ 1048576
  · have HP1 := Lib.hid (fun (W : World) (h : Below w.heap.size w W) => pairs_any S T (.slice aa a.length ac) (.slice ba b.length bc) a b W (HS.out _ h.size) (HT.out _ h.size) (HA.out _ h.block) (HB.out _ h.block) (by omega) (by omega) HAX.out HBX.out hm)
    have HP2 := Lib.hid (fun (W : World) (h : Below w.heap.size w W) => rpairs_any S T (.slice aa a.length ac) (.slice ba b.length bc) a b W (HS.out _ h.size) (HT.out _ h.size) (HA.out _ h.block) (HB.out _ h.block) (by omega) (by omega) hm)
    have HD1 := Lib.hid (fun (W : World) (h : Below w.heap.size w W) => diff_any S T (.slice aa a.length ac) (.slice ba b.length bc) a b W (HS.out _ h.size) (HT.out _ h.size) (HA.out _ h.block) (HB.out _ h.block) (by omega) (by omega) HAX.out HBX.out hm)
    have HD2 := Lib.hid (fun (W : World) (h : Below w.heap.size w W) => rdiff_any S T (.slice aa a.length ac) (.slice ba b.length bc) a b W (HS.out _ h.size) (HT.out _ h.size) (HA.out _ h.block) (HB.out _ h.block) (by omega) (by omega) hm)
    have hpl := pairsN_len a b 0 0
    have hpb : (pairsN a 0 b 0).length ≤ 1048576 := by have := (lcs_len a b).1; omega
    obtain ⟨d1, d2, d3, d4⟩ := diff_sizes a b
    have D4 : Hid (∀ h ∈ diffN a b, h.old.length ≤ 4194304 ∧ h.new.length ≤ 4194304) := Lib.hid (fun h hh => by obtain ⟨q1, q2, q3, q4⟩ := d4 h hh; exact ⟨by omega, by omega⟩)
    have hdl : (diffN a b).length ≤ 4194304 := by omega
    generalize pairsN a 0 b 0 = P at *
    generalize diffN a b = D at *
    clear hm hpl d1 d2 d3 d4
    go_wp2_with fail
    refine (HP1.out w1 B1.out).mono ?_
    rintro e w2 ⟨v2, rfl, ho2, hb2⟩
    have B2 := Lib.hid (B1.out.trans (hb2.mono hs1))
    have O2 := Lib.hid (fun (W : World) (h : Below w2.heap.size w2 W) => (ownP_c ho2).kept (S' := fun k => k < w2.heap.size) (w' := W) (fun k hk => ⟨hk.2, h.block k hk.2⟩))
    have hs2 := B2.out.size
    obtain ⟨a2, c2, rfl⟩ := ownP_slice ho2
    clear ho2 hb2 HP1
    go_wp2_with fail
    refine (HP2.out w2 B2.out).mono ?_
    rintro e w3 ⟨v3, rfl, ho3, hb3⟩
    have B3 := Lib.hid (B2.out.trans (hb3.mono hs2))
    have W3 := Lib.hid hb3
    have O3 := Lib.hid (fun (W : World) (h : Below w3.heap.size w3 W) => (ownK_c ho3).kept (S' := fun k => k < w3.heap.size) (w' := W) (fun k hk => ⟨hk.2, h.block k hk.2⟩))
    have hs3 := B3.out.size
    obtain ⟨a3, c3, rfl⟩ := ownK_slice ho3
    clear ho3 hb3 HP2
    go_wp2_with fail
    refine (HD1.out w3 B3.out).mono ?_
    rintro e w4 ⟨v4, rfl, hh4, hb4⟩
    have B4 := Lib.hid (B3.out.trans (hb4.mono hs3))
    have W4 := Lib.hid hb4
    have H4 := Lib.hid (fun (W : World) (h : Below w4.heap.size w4 W) => hh4.kept hunk_keeps (S' := fun k => k < w4.heap.size) (w' := W) (fun k hk => ⟨hk.2, h.block k hk.2⟩))
    have hs4 := B4.out.size
    obtain ⟨a4, c4, rfl⟩ := hh4.shape
    clear hh4 hb4 HD1
    go_wp2_with fail
    refine (HD2.out w4 B4.out).mono ?_
    rintro e w5 ⟨v5, rfl, hh5, hb5⟩
    have B5 := Lib.hid (B4.out.trans (hb5.mono hs4))
    have W5 := Lib.hid hb5
    have H5 := Lib.hid (fun (W : World) (h : Below w5.heap.size w5 W) => hh5.kept hunk_keeps (S' := fun k => k < w5.heap.size) (w' := W) (fun k hk => ⟨hk, h.block k hk⟩))
    have hs5 := B5.out.size
    have hs45 := hb5.size
    obtain ⟨a5, c5, rfl⟩ := hh5.shape
    clear hh5 hb5 HD2
    go_wp2_with fail
    refine (plain_any _ _ D w5 (fun k hk => by omega) (H4.out w5 W5.out) hdl).mono ?_
    rintro e w6 ⟨v6, rfl, hh6, hb6⟩
    have B6 := Lib.hid (B5.out.trans (hb6.mono hs5))
    have W6 := Lib.hid hb6
    have H6 := Lib.hid hh6
    obtain ⟨a6, c6, rfl⟩ := hh6.shape
    clear hh6 hb6
    go_wp2_with fail
    refine (hsame_yes _ _ _ _ D w6 H6.out (H5.out w6 W6.out) hdl D4.out).mono ?_
    rintro e w7 ⟨rfl, n7, rfl⟩
    have B7 := Lib.hid (B6.out.trans (drewn _ w6 n7))
    have W7 := Lib.hid (W6.out.trans (drewn _ w6 n7))
    have Z5 : Hid (Below w4.heap.size w4 (w6.drewN n7)) := Lib.hid (W5.out.trans (W7.out.mono hs45))
    have Z4 : Hid (Below w3.heap.size w3 (w6.drewN n7)) := Lib.hid (W4.out.trans (Z5.out.mono W4.out.size))
    have Z3 : Hid (Below w2.heap.size w2 (w6.drewN n7)) := Lib.hid (W3.out.trans (Z4.out.mono W3.out.size))
    clear H4 H5 H6 W3 W4 W5 W6 W7 Z5 B6 HA HB
    generalize w6.drewN n7 = w8 at *
    go_wp2_with fail
    go_loopw [13, 64] (fun _ i wr => ∃ k n : Nat, k ≤ P.length ∧ i = .int .i64 k ∧ wr = w8.drewN n) (fun _ i _ => P.length - (intOf i).toNat)
    case atStart => exact ⟨0, 0, Nat.zero_le _, rfl, rfl⟩
    case round =>
      obtain ⟨k, n, hk, rfl, rfl⟩ := hrel
      by_cases hlt : k < P.length
      · obtain ⟨g, o, rfl, hSg, _, _, hcq⟩ := (O2.out _ (Z3.out.trans (drewn _ w8 n))).at (by omega)
        obtain ⟨g', o', rfl, hSg', _, _, hcq'⟩ := (O3.out _ (Z4.out.trans (drewn _ w8 n))).at (by omega)
        obtain ⟨q1, q2⟩ := p2_at P k hlt
        have f1 := hcq _ _ q1
        have f2 := hcq _ _ q2
        rw [← Nat.add_assoc] at f2
        have f3 := hcq' _ _ q1
        have f4 := hcq' _ _ q2
        rw [← Nat.add_assoc] at f4
        have HWX : Hid (∃ m, w8.drewN n = w8.drewN m) := Lib.hid ⟨n, rfl⟩
        generalize P.getD k (0, 0) = p at *
        obtain ⟨p0, p1⟩ := p
        simp only at f1 f2 f3 f4
        generalize w8.drewN n = wx at *
        have HQ2 : ∀ W, (Op.equalIn 10000 46 (.agg #[.int .i64 (p0 : Int), .int .i64 (p1 : Int)]) (.agg #[.int .i64 (p0 : Int), .int .i64 (p1 : Int)])).run Try.prog W = .ok true W := fun W => eq_two W _ _
        clear hcq hcq' q1 q2 hSg hSg'
        go_wp2_with fail
        go_quiet (fail)
        go_wp2_with fail
        go_roundw
        case rel =>
          obtain ⟨m, rfl⟩ := HWX.out
          exact ⟨k + 1, _, by omega, by go_num, World.drewN_drewN _ _ _⟩
        case measure => simp [intOf]; omega
      · go_wp2_with fail
        go_ret
        exact ⟨rfl, B7.out.trans (drewn _ w8 n)⟩
  · have HP1 := Lib.hid (fun (W : World) (h : Below w.heap.size w W) => pairs_long S T (.slice aa a.length ac) (.slice ba b.length bc) a b W (HA.out _ h.block) (HB.out _ h.block) (by omega) (by omega) (by omega))
    have HP2 := Lib.hid (fun (W : World) (h : Below w.heap.size w W) => rpairs_long S T (.slice aa a.length ac) (.slice ba b.length bc) a b W (HA.out _ h.block) (HB.out _ h.block) (by omega) (by omega) (by omega))
    have HD1 := Lib.hid (fun (W : World) (h : Below w.heap.size w W) => diff_long S T (.slice aa a.length ac) (.slice ba b.length bc) a b W (HA.out _ h.block) (HB.out _ h.block) (by omega) (by omega) (by omega))
    have HD2 := Lib.hid (fun (W : World) (h : Below w.heap.size w W) => rdiff_long S T (.slice aa a.length ac) (.slice ba b.length bc) a b W (HA.out _ h.block) (HB.out _ h.block) (by omega) (by omega) (by omega))
    have HN := Lib.hid (RowsC.kept hunk_keeps (S := fun _ => False) (w := w1) (es := []) ⟨[], rfl, fun _ h => (by cases h), CellsC.nil _ _ none 0 3, fun j e cs h _ => (by simp at h)⟩ (S' := fun _ => False) (w' := w1) (fun k hk => ⟨hk, rfl⟩))
    clear hm
    go_wp2_with fail
    refine (HP1.out w1 B1.out).mono ?_
    rintro e w2 ⟨rfl, rfl⟩
    go_wp2_with fail
    refine (HP2.out w1 B1.out).mono ?_
    rintro e w2 ⟨rfl, rfl⟩
    go_wp2_with fail
    refine (HD1.out w1 B1.out).mono ?_
    rintro e w2 ⟨rfl, rfl⟩
    go_wp2_with fail
    refine (HD2.out w1 B1.out).mono ?_
    rintro e w2 ⟨rfl, rfl⟩
    go_wp2_with fail
    refine (plain_any _ _ [] w1 (fun k hk => hk.elim) HN.out (by simp)).mono ?_
    rintro e w6 ⟨v6, rfl, hh6, hb6⟩
    have B6 := Lib.hid (B1.out.trans (hb6.mono hs1))
    have H6 := Lib.hid hh6
    obtain ⟨a6, c6, rfl⟩ := hh6.shape
    clear hh6 hb6
    go_wp2_with fail
    refine (hsame_yes _ (fun _ => False) _ _ [] w6 H6.out ⟨[], rfl, fun _ h => (by cases h), CellsC.nil _ _ none 0 3, fun j e cs h _ => (by simp at h)⟩ (by simp) (fun h hh => by cases hh)).mono ?_
    rintro e w7 ⟨rfl, n7, rfl⟩
    have B7 := Lib.hid (B6.out.trans (drewn _ w6 n7))
    clear H6 B6 HN
    generalize w6.drewN n7 = w8 at *
    go_wp2_with fail
    go_loopw [13, 64] (fun _ i wr => i = .int .i64 0 ∧ wr = w8) (fun _ _ _ => 0)
    case atStart => exact ⟨rfl, rfl⟩
    case round =>
      obtain ⟨rfl, rfl⟩ := hrel
      go_wp2_with fail
      go_ret
      exact ⟨rfl, B7.out⟩
end Go.Proofs.Ytpjhgejjjilhbaa
