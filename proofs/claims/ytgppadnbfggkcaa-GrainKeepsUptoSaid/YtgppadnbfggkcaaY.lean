/- Contracts: the reference's Decode. -/
import Derived.Test.YtgppadnbfggkcaaX
namespace Go.Proofs.Ytgppadnbfggkcaa
open Go.RowKit

def RDecAnswers (w : World) (r : Except Int Val) (e : Ending) (w' : World) : Prop :=
  match r with
  | .ok x => ∃ v, e = .returned (.tuple #[v, .int .i64 0]) ∧ ReadsS (fun k => w.heap.size ≤ k ∧ k < w'.heap.size) w' 16 v x ∧ Below w.heap.size w w'
  | .error c => e = .returned (.tuple #[.agg #[.int .i64 0, .int .u64 0, .slice none 0 0, .float .f64 0, .slice none 0 0], .int .i64 c]) ∧ c ≠ 0 ∧ Below w.heap.size w w'
set_option maxRecDepth 100000 in
set_option maxHeartbeats 1000000 in
theorem rdecode_long (s : List UInt8) (w : World) (hl : 1048576 < s.length) (hm : s.length ≤ 281474976710656) :
    Calls Try.prog 13 #[.string ⟨s.toArray⟩] w (RDecAnswers w (.error 2)) := by
  have hst := run_storeF
  have H5 := Lib.hid (five_cells (new_five w #[.int .i64 0, .int .u64 0, .slice none 0 0, .float .f64 0, .slice none 0 0] 27))
  go_enter Try.func13, Try.ntmps13
  obtain ⟨⟨c0, c1, c2, c3, c4⟩, z0, z1, z2, z3, z4⟩ := H5.out
  go_wp2_with fail
  exact bodyPost_ret (v := .tuple #[.agg #[.int .i64 0, .int .u64 0, .slice none 0 0, .float .f64 0, .slice none 0 0], .int .i64 2]) (by simp [results, Try.results13, go_sem, c0, c1, c2, c3, c4]) rfl
    ⟨rfl, by decide, (Below.refl _ _).alloc (Nat.le_refl _) _⟩
set_option maxRecDepth 100000 in
set_option maxHeartbeats 1000000 in
theorem rdecode_fit (s : List UInt8) (w : World) (hl : s.length ≤ 1048576) :
    Calls Try.prog 13 #[.string ⟨s.toArray⟩] w (RDecAnswers w (match valD 16 s with
      | .ok (x, []) => .ok x
      | .ok (_, _ :: _) => .error 23
      | .error c => .error c)) := by
  have hst := run_storeF
  have HV := rvalue_ok 16 s 0 0 (w.alloc (.cells #[.int .i64 0, .int .u64 0, .slice none 0 0, .float .f64 0, .slice none 0 0] 27)) (by omega) hl (Nat.zero_le _)
  rw [List.drop_zero] at HV
  have H := Lib.hid HV
  clear HV
  generalize hy : valD 16 s = y at *
  clear hy
  cases y with
  | error c =>
    go_enter Try.func13, Try.ntmps13
    go_wp2_with fail
    refine H.out.mono ?_
    rintro e w1 ⟨t', rfl, hc0, hb⟩
    have hcb : (c == 0) = false := by rw [beq_eq_false_iff_ne]; exact hc0
    have HS := Lib.hid ((RStart.of hb).step ((Below.refl _ w1).alloc (Nat.le_refl _) (.cells #[.int .i64 0, .int .u64 0, .slice none 0 0, .float .f64 0, .slice none 0 0] 27)))
    obtain ⟨⟨c0, c1, c2, c3, c4⟩, z0, z1, z2, z3, z4⟩ := five_cells HS.out.blk
    have HC0 := Lib.hid hc0
    clear hb hc0
    go_wp2_with fail
    obtain ⟨r0, r1, r2, r3, r4⟩ := set5_cells c0 c1 c2 c3 c4 (.int .i64 0) (.int .u64 0) (.slice none 0 0) (.float .f64 0) (.slice none 0 0)
    unfold set5 at r0 r1 r2 r3 r4
    exact bodyPost_ret (v := .tuple #[.agg #[.int .i64 0, .int .u64 0, .slice none 0 0, .float .f64 0, .slice none 0 0], .int .i64 c]) (by simp [results, Try.results13, go_sem, r0, r1, r2, r3, r4]) rfl
      ⟨rfl, HC0.out, HS.out.fin _ _ _ _ _⟩
  | ok p =>
    obtain ⟨x, r⟩ := p
    go_enter Try.func13, Try.ntmps13
    go_wp2_with fail
    refine H.out.mono ?_
    rintro e w1 ⟨v, t', rfl, _, htu, hdr, hx, hb⟩
    obtain ⟨yk, yu, yb, yf, yl⟩ := x
    obtain ⟨a1, n1, p1, a2, n2, p2, rfl⟩ := hx.shape
    have HX := Lib.hid hx
    have HB := Lib.hid hb
    have HS := Lib.hid ((RStart.of hb).step ((Below.refl _ w1).alloc (Nat.le_refl _) (.cells #[.int .i64 yk, .int .u64 yu, .slice a1 n1 p1, .float .f64 yf, .slice a2 n2 p2] 27)))
    obtain ⟨⟨c0, c1, c2, c3, c4⟩, z0, z1, z2, z3, z4⟩ := five_cells HS.out.blk
    clear hb hx
    cases r with
    | nil =>
      have hlen : s.length ≤ t' := by
        have e := congrArg List.length hdr
        rw [List.length_drop] at e
        simp at e; omega
      have hd : decide ((t' : Int) < (s.length : Int)) = false := by simp; omega
      have hd2 : decide (t' < s.length) = false := by simp; omega
      clear hdr
      go_wp2_with fail
      obtain ⟨r0, r1, r2, r3, r4⟩ := set5_cells c0 c1 c2 c3 c4 (.int .i64 yk) (.int .u64 yu) (.slice a1 n1 p1) (.float .f64 yf) (.slice a2 n2 p2)
      unfold set5 at r0 r1 r2 r3 r4
      have hs1 := HB.out.size
      simp at hs1
      have hx2 := RStart.reads (w := w) (ReadsS.kept (S' := fun k => w.heap.size < k ∧ k < (w1.alloc (.cells #[.int .i64 yk, .int .u64 yu, .slice a1 n1 p1, .float .f64 yf, .slice a2 n2 p2] 27)).heap.size)
        (fun k hk => by simp at hk; exact ⟨⟨by omega, by simp; omega⟩, Below.heap_alloc _ _ _ hk.2⟩) 16 _ _ HX.out)
      exact bodyPost_ret (v := .tuple #[.agg #[.int .i64 yk, .int .u64 yu, .slice a1 n1 p1, .float .f64 yf, .slice a2 n2 p2], .int .i64 0]) (by simp [results, Try.results13, go_sem, r0, r1, r2, r3, r4]) rfl
        ⟨_, rfl, hx2, HS.out.fin _ _ _ _ _⟩
    | cons q r =>
      have hlen : t' < s.length := by
        have e := congrArg List.length hdr
        rw [List.length_drop] at e
        simp at e; omega
      have hd : decide ((t' : Int) < (s.length : Int)) = true := by simp; omega
      have hd2 : decide (t' < s.length) = true := by simp; omega
      clear hdr
      go_wp2_with fail
      obtain ⟨r0, r1, r2, r3, r4⟩ := set5_cells c0 c1 c2 c3 c4 (.int .i64 0) (.int .u64 0) (.slice none 0 0) (.float .f64 0) (.slice none 0 0)
      unfold set5 at r0 r1 r2 r3 r4
      exact bodyPost_ret (v := .tuple #[.agg #[.int .i64 0, .int .u64 0, .slice none 0 0, .float .f64 0, .slice none 0 0], .int .i64 23]) (by simp [results, Try.results13, go_sem, r0, r1, r2, r3, r4]) rfl
        ⟨rfl, by decide, HS.out.fin _ _ _ _ _⟩
theorem rdecode_any (s : List UInt8) (w : World) (hm : s.length ≤ 281474976710656) : Calls Try.prog 13 #[.string ⟨s.toArray⟩] w (RDecAnswers w (decR s)) := by
  unfold decR
  by_cases hl : 1048576 < s.length
  · rw [if_pos hl]; exact rdecode_long s w hl hm
  · rw [if_neg hl]; exact rdecode_fit s w (by omega)
end Go.Proofs.Ytgppadnbfggkcaa
