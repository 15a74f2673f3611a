/- The walk of the law ScoreAlike, over what awake answers. -/
import Derived.Test.YtaajfekolokaoaaScC
namespace Go.Proofs.Ytaajfekolokaoaa
open Go.RowKit

theorem bits_same (b : Nat) (w : World) : Calls Try.prog 11 #[.float .f64 b, .float .f64 b] w fun e w' => e = .returned (.bool true) ∧ w = w' := by
  have h14 := fb14
  go_enter Try.func11, Try.ntmps11
  go_wp2_with fail
  go_ret
  exact ⟨rfl, rfl⟩
set_option maxRecDepth 100000 in
set_option maxHeartbeats 1000000 in
theorem alike_law (HA : Hid (∀ w, Calls Try.prog 8 #[] w (TrueP w))) (S T : Nat → Prop) (va vb : Value) (a b : List (List UInt8)) (w : World) (hS : ∀ k, S k → k < w.heap.size) (hT : ∀ k, T k → k < w.heap.size) (ha : StrsC S w va a) (hb : StrsC T w vb b) (hal : a.length ≤ 4194304) (hbl : b.length ≤ 4194304) (hax : ∀ x ∈ a, x.length ≤ 4194304) (hbx : ∀ x ∈ b, x.length ≤ 4194304) :
    Calls Try.prog 3 #[va, vb] w (TrueP w) := by
  obtain ⟨aa, ac, rfl⟩ := ha.shape
  obtain ⟨ba, bc, rfl⟩ := hb.shape
  have SA : Hid (∀ W, Below w.heap.size w W → StrsC (fun k => k < W.heap.size) W (.slice aa a.length ac) a) := Lib.hid (fun W h => ha.kept (fun k hk => ⟨Nat.lt_of_lt_of_le (hS k hk) h.size, h.block k (hS k hk)⟩))
  have SB : Hid (∀ W, Below w.heap.size w W → StrsC (fun k => k < W.heap.size) W (.slice ba b.length bc) b) := Lib.hid (fun W h => hb.kept (fun k hk => ⟨Nat.lt_of_lt_of_le (hT k hk) h.size, h.block k (hT k hk)⟩))
  have HB := Lib.hid bits_same
  by_cases hm : a.length * b.length ≤ 1048576
  · have H1 := Lib.hid (fun W h => alike_ok _ _ _ _ a b W (fun _ h => h) (fun _ h => h) (SA.out W h) (SB.out W h) hal hbl hax hbx hm)
    have H2 := Lib.hid (fun W h => ralike_ok _ _ _ _ a b W (fun _ h => h) (fun _ h => h) (SA.out W h) (SB.out W h) hal hbl hm)
    clear ha hb hS hT hal hbl hax hbx hm
    generalize alN a b = z at *
    generalize a.length = n1 at *
    generalize b.length = n2 at *
    go_enter Try.func3, Try.ntmps3
    go_wp2_with fail
    refine (HA.out _).mono ?_
    rintro e w1 ⟨rfl, hb1⟩
    have B1 := Lib.hid hb1
    clear hb1
    go_wp2_with fail
    refine (H1.out _ B1.out).mono ?_
    rintro e w2 ⟨rfl, hb2⟩
    have B2 := Lib.hid (B1.out.trans (hb2.mono B1.out.size))
    clear hb2
    go_wp2_with fail
    refine (H2.out _ B2.out).mono ?_
    rintro e w3 ⟨rfl, hb3⟩
    have B3 := Lib.hid (B2.out.trans (hb3.mono B2.out.size))
    clear hb3
    go_wp2_with fail
    refine (HB.out _ _).mono ?_
    rintro e w4 ⟨rfl, rfl⟩
    go_wp2_with fail
    go_ret
    exact ⟨rfl, B3.out⟩
  · have H1 := Lib.hid (fun W h => alike_long _ _ _ _ a b W (SA.out W h) (SB.out W h) hal hbl (by omega))
    have H2 := Lib.hid (fun W h => ralike_long _ _ _ _ a b W (SA.out W h) (SB.out W h) hal hbl (by omega))
    clear ha hb hS hT hal hbl hax hbx hm
    generalize a.length = n1 at *
    generalize b.length = n2 at *
    go_enter Try.func3, Try.ntmps3
    go_wp2_with fail
    refine (HA.out _).mono ?_
    rintro e w1 ⟨rfl, hb1⟩
    have B1 := Lib.hid hb1
    clear hb1
    go_wp2_with fail
    refine (H1.out _ B1.out).mono ?_
    rintro e w2 ⟨rfl, rfl⟩
    go_wp2_with fail
    refine (H2.out _ B1.out).mono ?_
    rintro e w3 ⟨rfl, rfl⟩
    go_wp2_with fail
    refine (HB.out _ _).mono ?_
    rintro e w4 ⟨rfl, rfl⟩
    go_wp2_with fail
    go_ret
    exact ⟨rfl, B1.out⟩
theorem alike_claim (HA : Hid (∀ w, Calls Try.prog 8 #[] w (TrueP w))) (S T : Nat → Prop) (va vb : Value) (a b : List (List UInt8)) (w : World) (hS : ∀ k, S k → k < w.heap.size) (hT : ∀ k, T k → k < w.heap.size) (ha : StrsC S w va a) (hb : StrsC T w vb b) (h1 : sumL a ≤ 1048576) (h2 : sumL b ≤ 1048576) :
    Calls Try.prog 3 #[va, vb] w (TrueP w) :=
  alike_law HA S T va vb a b w hS hT ha hb (by have := sumL_len a; omega) (by have := sumL_len b; omega) (fun x hx => by have := sumL_mem a x hx; omega) (fun x hx => by have := sumL_mem b x hx; omega)
end Go.Proofs.Ytaajfekolokaoaa
