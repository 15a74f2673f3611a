/- The walks of alike, rank, Compare, Under, Parent. -/
import Derived.Test.YtplbcncbljcfmaaDoorBase
import Derived.Test.YtplbcncbljcfmaaDoorPathC
import Derived.Test.YtplbcncbljcfmaaDoorShelf
import Derived.Deep.QuietTactic
import Derived.BigQuiet
namespace Go.Proofs.YtplbcncbljcfmaaDoor
open Go.RowKit Go.Lib

theorem at_size (s : List UInt8) : (⟨s.toArray⟩ : ByteArray).size = s.length := by simp [ByteArray.size]
theorem str_at (w : World) (s : List UInt8) (i : Nat) (hi : i < s.length) : (Instr.index 9 (.string ⟨s.toArray⟩) (.int .i64 (i : Int))).run Tryd.prog w = .ok (.int .u8 ((s.getD i 0).toNat : Nat)) w := by
  have hs : i < (⟨s.toArray⟩ : ByteArray).size := by rw [at_size]; exact hi
  rw [run_index_string _ _ _ _ _ (by kernel_rfl), dif_pos (by omega)]
  have e : (i : Int).toNat = i := by omega
  simp only [e]
  have e2 : (⟨s.toArray⟩ : ByteArray)[i] = s[i] := rfl
  rw [e2, show s.getD i 0 = s[i] by simp [List.getD, List.getElem?_eq_getElem hi]]
theorem drewn (B : Nat) (w : World) (n : Nat) : Below B w (w.drewN n) := ⟨rfl, rfl, rfl, Nat.le_refl _, fun _ _ => rfl⟩
theorem quiet_l {P : Program} {f : FuncId} {args : Array Value} {w : World} {n : Nat} {v : Value}
    (h : Calls P f args (w.drewN n) fun e w' => e = .returned v ∧ w.drewN n = w') : Calls P f args (w.drewN n) fun e w'' => e = .returned v ∧ ∃ m, w'' = w.drewN m :=
  h.mono fun _ _ ⟨he, hm⟩ => ⟨he, n, hm.symm⟩
theorem quiet_d {P : Program} {f : FuncId} {args : Array Value} {w : World} {n : Nat} {v : Value}
    (h : Calls P f args (w.drewN n) fun e w' => e = .returned v ∧ ∃ m, w' = (w.drewN n).drewN m) : Calls P f args (w.drewN n) fun e w'' => e = .returned v ∧ ∃ m, w'' = w.drewN m :=
  h.mono fun _ _ ⟨he, m, hm⟩ => ⟨he, n + m, by rw [hm, World.drewN_drewN]⟩
set_option maxHeartbeats 1000000 in
theorem alike_any (a b : List UInt8) (w : World) (ha : a.length ≤ 140737488355328) : Calls Tryd.prog 68 #[.string ⟨a.toArray⟩, .string ⟨b.toArray⟩] w fun e w' => e = .returned (.int .i64 ((alikeN a b : Nat) : Int)) ∧ ∃ n, w' = w.drewN n := by
  have HU := Lib.hid (fun k => alikeN_unique (a := a) (b := b) (k := k))
  go_enter Tryd.func68, Tryd.ntmps68
  go_wp2_with fail
  go_loopw [5] (fun i wr => ∃ k n : Nat, k ≤ a.length ∧ k ≤ b.length ∧ i = .int .i64 k ∧ Hid (∀ j, j < k → a.getD j 0 = b.getD j 0) ∧ wr = w.drewN n) (fun i _ => a.length - (intOf i).toNat)
  case atStart => exact ⟨0, 0, Nat.zero_le _, Nat.zero_le _, rfl, Lib.hid (fun j hj => absurd hj (by omega)), rfl⟩
  case round =>
    obtain ⟨k, n, hk1, hk2, rfl, hsame, rfl⟩ := hrel
    by_cases h1 : k < a.length
    · by_cases h2 : k < b.length
      · have hx := fun W => str_at W a k h1
        have hy := fun W => str_at W b k h2
        have g1 : decide (k < a.length) = true := decide_eq_true h1
        have g2 : decide (k < b.length) = true := decide_eq_true h2
        by_cases h3 : a.getD k 0 = b.getD k 0
        · have HN : Hid (∀ j, j < k + 1 → a.getD j 0 = b.getD j 0) := Lib.hid (fun j hj => by
            by_cases e : j = k
            · rw [e]; exact h3
            · exact hsame.out j (by omega))
          have h4 : (a.getD k 0).toNat = (b.getD k 0).toNat := by rw [h3]
          rw [h4] at hx
          generalize (b.getD k 0).toNat = y at *
          clear h3 h4
          go_wp2_with fail
          go_quiet (fail)
          go_wp2_with fail
          go_roundw
          case rel => exact ⟨k + 1, n + nq, by omega, by omega, by go_num, HN, rfl⟩
          case measure => simp [intOf]; omega
        · have HQ : Hid (alikeN a b = k) := Lib.hid (HU.out k hk1 hk2 hsame.out (Or.inr (Or.inr h3)))
          have h4 : (((a.getD k 0).toNat : Int) == ((b.getD k 0).toNat : Int)) = false := by
            rw [beq_eq_false_iff_ne]; intro e; exact h3 (UInt8.toNat_inj.1 (by omega))
          generalize (a.getD k 0).toNat = x at *
          generalize (b.getD k 0).toNat = y at *
          clear h3
          go_wp2_with fail
          go_quiet (fail)
          go_wp2_with fail
          go_ret
          exact ⟨by rw [HQ.out]; rfl, n + nq, by rw [World.drewN_drewN]⟩
      · have HQ : Hid (alikeN a b = k) := Lib.hid (HU.out k hk1 hk2 hsame.out (Or.inr (Or.inl (by omega))))
        have g1 : decide (k < a.length) = true := decide_eq_true h1
        have g2 : decide (k < b.length) = false := decide_eq_false h2
        go_wp2_with fail
        go_quiet (fail)
        go_wp2_with fail
        go_ret
        exact ⟨by rw [HQ.out]; rfl, n + nq, by rw [World.drewN_drewN]⟩
    · have HQ : Hid (alikeN a b = k) := Lib.hid (HU.out k hk1 hk2 hsame.out (Or.inl (by omega)))
      have g1 : decide (k < a.length) = false := decide_eq_false h1
      go_wp2_with fail
      go_quiet (fail)
      go_wp2_with fail
      go_ret
      exact ⟨by rw [HQ.out]; rfl, n + nq, by rw [World.drewN_drewN]⟩
theorem rank_any (c : UInt8) (w : World) : Calls Tryd.prog 70 #[.int .u8 ((c.toNat : Nat) : Int)] w fun e w' => e = .returned (.int .i64 (rankI c)) ∧ w = w' := by
  by_cases h : c = 47
  · subst h
    go_enter Tryd.func70, Tryd.ntmps70
    go_wp2_with fail
    go_ret
    exact ⟨rfl, rfl⟩
  · have hr : Hid (rankI c = (c.toNat : Int)) := Lib.hid (by unfold rankI; rw [if_neg h])
    have hne : (((c.toNat : Nat) : Int) == 47) = false := by
      rw [beq_eq_false_iff_ne]; intro e; exact h (UInt8.toNat_inj.1 (by rw [show (47 : UInt8).toNat = 47 from rfl]; omega))
    have hc : c.toNat < 256 := c.toNat_lt
    generalize c.toNat = x at *
    clear h
    go_enter Tryd.func70, Tryd.ntmps70
    go_wp2_with fail
    go_ret
    exact ⟨by rw [hr.out]; rfl, rfl⟩
theorem compareInt_sgn (x y : Int) : Lib.compareInt x y = sgn x y := by
  unfold Lib.compareInt sgn; split <;> simp_all
end Go.Proofs.YtplbcncbljcfmaaDoor
