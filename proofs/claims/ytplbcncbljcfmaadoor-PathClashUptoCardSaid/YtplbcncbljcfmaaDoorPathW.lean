/- The walk of the reference's Clash. -/
import Derived.Test.YtplbcncbljcfmaaDoorPathV
namespace Go.Proofs.YtplbcncbljcfmaaDoor
open Go.RowKit Go.Lib

def ApartIn (s : List Txt) (i k : Nat) : Prop := ∀ j, k ≤ j → j < i → relB (s.getD i []) (s.getD j []) = false
set_option maxRecDepth 100000 in
set_option maxHeartbeats 4000000 in
theorem rclash_walk (S : Nat → Prop) (v : Value) (l : List Txt) (w : World) (hS : ∀ k, S k → k < w.heap.size) (h : StrsC S w v l) (hl : l.length ≤ 4194304) (hx : ∀ x ∈ l, x.length ≤ 4194304) :
    Calls Tryd.prog 41 #[v] w (ClashP l w.heap.size w) := by
  have HC := Lib.hid (rsorted_any S v l w hS h hl (fun j hj => by rw [getD_at hj]; exact hx _ (List.getElem_mem hj)))
  have HSL : Hid ((sortP l).length ≤ 4194304) := Lib.hid (by rw [(sortP_perm l).length_eq]; exact hl)
  have HSX : Hid (∀ j, j < (sortP l).length → ((sortP l).getD j []).length ≤ 4194304) := Lib.hid (fun j hj => by rw [getD_at hj]; exact hx _ ((sortP_perm l).mem_iff.1 (List.getElem_mem hj)))
  have HSS := Lib.hid (sortP_sorted l)
  have HF : Hid (∀ w1 a b, ClashOf (sortP l) a b → Below w.heap.size w w1 → ClashP l w.heap.size w (.returned (.tuple #[.string ⟨a.toArray⟩, .string ⟨b.toArray⟩])) w1) := Lib.hid (fun w1 a b hc hb => ⟨a, b, rfl, hc, hb⟩)
  generalize ClashP l w.heap.size w = Q at *
  generalize sortP l = s at *
  clear h hl hx hS
  go_enter Tryd.func41, Tryd.ntmps41
  go_wp2_with fail
  refine HC.out.mono ?_
  rintro e w2 ⟨v2, rfl, ho2, hb2⟩
  have B2 := Lib.hid hb2
  have O2 := Lib.hid (ownS_c ho2)
  obtain ⟨a, c, rfl⟩ := ownS_slice ho2
  have hsl := HSL.out
  clear ho2 hb2 HC
  go_wp2_with fail
  go_loopw [5] (fun i wr => ∃ k n : Nat, k ≤ s.length ∧ i = .int .i64 k ∧ Hid (noneBelow s k) ∧ wr = w2.drewN n) (fun i _ => s.length - (intOf i).toNat)
  case atStart => exact ⟨0, 0, Nat.zero_le _, rfl, Lib.hid (fun j hj => by omega), rfl⟩
  case round =>
    obtain ⟨i, n, hi, rfl, hn, rfl⟩ := hrel
    by_cases hlt : i < s.length
    · obtain ⟨b, rfl, _, _, hb3⟩ := O2.out.at (by omega)
      have c1 := hb3 i hlt
      have HB3 := Lib.hid hb3
      have HX1 := Lib.hid (HSX.out i hlt)
      have HFO := Lib.hid (fun k (hk : k < i) hr => clash_found HSS.out hlt hk hn.out hr)
      have HAN : Hid (ApartIn s i 0 → noneBelow s (i + 1)) := Lib.hid (fun h => noneBelow_step hn.out (fun k hk => h k (Nat.zero_le _) hk))
      have HRU : Hid (∀ k, k < i → Calls Tryd.prog 36 #[.string ⟨(s.getD i []).toArray⟩, .string ⟨(s.getD k []).toArray⟩] w2 fun e w' => True) := Lib.hid (fun k hk => (runder_any _ _ _ HX1.out).mono fun _ _ _ => trivial)
      clear hb3 HRU
      go_wp2_with fail
      go_loopw [6] (fun t wq => ∃ (t' : Int) (k n : Nat), t = .int .i64 t' ∧ k ≤ i ∧ Hid (t' = (k : Int) - 1) ∧ -1 ≤ t' ∧ t' < i ∧ Hid (ApartIn s i k) ∧ wq = w2.drewN n) (fun t _ => (intOf t + 1).toNat)
      case atStart => exact ⟨(i : Int) - 1, i, n, rfl, Nat.le_refl _, Lib.hid rfl, by omega, by omega, Lib.hid (fun j h1 h2 => by omega), rfl⟩
      case round =>
        obtain ⟨t', k, n, rfl, hk, ht, ht1, ht2, hap, rfl⟩ := hrel
        by_cases ht0 : 0 ≤ t'
        · obtain ⟨m, rfl⟩ : ∃ m : Nat, t' = m := ⟨t'.toNat, by omega⟩
          have hmi : m < i := by omega
          have hms : m < s.length := by omega
          have c2 := HB3.out m hms
          have HKM : Hid (k = m + 1) := Lib.hid (by have := ht.out; omega)
          have HAP : Hid (relB (s.getD i []) (s.getD m []) = false → ApartIn s i m) := Lib.hid (fun hr j h1 h2 => by
            by_cases e : j = m
            · subst e; exact hr
            · exact hap.out j (by have := HKM.out; omega) h2)
          have HG := Lib.hid (HFO.out m hmi)
          generalize s.getD i [] = x at *
          generalize s.getD m [] = y at *
          have HR : Hid (∀ q u, (y == x) = q → underB x y = u → relB x y = (q || u)) := Lib.hid (fun q u h1 h2 => by unfold relB; rw [h2, ← h1, BEq.comm])
          have HU := Lib.hid (fun W => runder_any x y W HX1.out)
          obtain ⟨q, hq⟩ : ∃ q, (y == x) = q := ⟨_, rfl⟩
          obtain ⟨u, hu⟩ : ∃ u, underB x y = u := ⟨_, rfl⟩
          have HR2 := Lib.hid (HR.out q u hq hu)
          rw [hu] at HU
          have c1 : (w2.drewN n).cell? (b.add i) = some (.string ⟨x.toArray⟩) := c1
          have c2 : (w2.drewN n).cell? (b.add m) = some (.string ⟨y.toArray⟩) := c2
          obtain ⟨wd, hwd⟩ : ∃ wd, wd = w2.drewN n := ⟨_, rfl⟩
          rw [← hwd] at c1 c2 ⊢
          have HWD := Lib.hid hwd
          have BD : Hid (∀ m, Below w.heap.size w (wd.drewN m)) := Lib.hid (fun m => by rw [hwd]; exact (B2.out.trans (drewn _ _ _)).trans (drewn _ _ _))
          clear HR hu hwd
          cases q
          · cases u
            · go_wp2_with fail
              go_quiet ((go_at_call 36; exact quiet_l (HU.out _)))
              go_wp2_with fail
              go_roundw
              case rel => exact ⟨(m : Int) - 1, m, n + nq, rfl, by omega, Lib.hid rfl, by omega, by omega, Lib.hid (HAP.out HR2.out), by rw [HWD.out, World.drewN_drewN]⟩
              case measure => simp [intOf]
            · go_wp2_with fail
              go_quiet ((go_at_call 36; exact quiet_l (HU.out _)))
              go_wp2_with fail
              go_quiet (fail)
              go_wp2_with fail
              exact HF.out _ _ _ (HG.out HR2.out) ((BD.out _).trans (drewn _ _ _))
          · go_wp2_with fail
            go_quiet (fail)
            go_wp2_with fail
            go_quiet (fail)
            go_wp2_with fail
            exact HF.out _ _ _ (HG.out (by rw [HR2.out]; rfl)) ((BD.out _).trans (drewn _ _ _))
        · have HK0 : Hid (k = 0) := Lib.hid (by have := ht.out; omega)
          have HN2 := Lib.hid (HAN.out (by rw [← HK0.out]; exact hap.out))
          go_wp2_with fail
          go_roundw
          case rel => exact ⟨i + 1, n, by omega, by go_num, HN2, rfl⟩
          case measure => simp [intOf]; omega
    · have hkl : i = s.length := by omega
      have HA2 : Hid (ClashOf s [] []) := Lib.hid (clash_none (by rw [← hkl]; exact hn.out))
      clear hkl
      go_wp2_with fail
      exact HF.out _ _ _ HA2.out (B2.out.trans (drewn _ _ _))
end Go.Proofs.YtplbcncbljcfmaaDoor
