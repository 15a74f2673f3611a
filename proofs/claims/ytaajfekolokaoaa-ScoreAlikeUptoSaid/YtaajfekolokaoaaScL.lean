/- Moves, where just two may be and the second stands ahead. -/
import Derived.Test.YtaajfekolokaoaaScK
namespace Go.Proofs.Ytaajfekolokaoaa
open Go.RowKit

theorem ownV_two {w : World} {B : Nat} {v : Value} {m n : Mv} (h : OwnV w B v [m, n]) : ∃ X cap, v = .slice (some ⟨X, 0, none⟩) 2 cap ∧ B ≤ X ∧ X < w.heap.size ∧ 2 ≤ cap ∧ cap ≤ 9223372036854775807 ∧ Two w X m n ∧ ∀ k, k < 6 → w.frozen? ⟨X, k, none⟩ = false := by
  rcases h.2 with ⟨_, e⟩ | ⟨X, cap, cur, e1, e2, e3, e4, e5, e6, e7⟩
  · cases e
  · have hc : ∀ k x, (m3 [m, n])[k]? = some x → w.cell? ⟨X, k, none⟩ = some x := fun k x hx => by
      rw [cell_of_row _ _ _ _ _ _ e3]
      rw [← e7, List.getElem?_take] at hx
      split at hx
      · simpa using hx
      · cases hx
    refine ⟨X, cap, e1, e2, ?_, e4, by unfold maxLen at e5; omega, ⟨hc 0 _ rfl, hc 1 _ rfl, hc 2 _ rfl, hc 3 _ rfl, hc 4 _ rfl, hc 5 _ rfl⟩, fun k _ => ?_⟩
    · exact (Array.getElem?_eq_some_iff.1 e3).1
    · unfold World.frozen?
      simp [e3]
theorem two_cells {w : World} {X cap : Nat} {m n : Mv} (h : Two w X m n) (hX : X < w.heap.size) (hc : 2 ≤ cap) (hc2 : cap ≤ 9223372036854775807) : MvsC (fun k => k < w.heap.size) w (.slice (some ⟨X, 0, none⟩) 2 cap) [m, n] := by
  refine ⟨rfl, m3_one _, Or.inr ⟨X, 0, cap, rfl, hX, hc, by unfold maxLen; omega, fun j u hj => ?_⟩⟩
  rw [Nat.zero_add]
  match j, hj with
  | 0, hj => injection hj with hj; subst hj; exact h.c0
  | 1, hj => injection hj with hj; subst hj; exact h.c1
  | 2, hj => injection hj with hj; subst hj; exact h.c2
  | 3, hj => injection hj with hj; subst hj; exact h.c3
  | 4, hj => injection hj with hj; subst hj; exact h.c4
  | 5, hj => injection hj with hj; subst hj; exact h.c5
  | j + 6, hj => cases hj
set_option maxRecDepth 100000 in
set_option maxHeartbeats 1000000 in
theorem moves2_any (S T : Nat → Prop) (vg vc : Value) (gs cs : List TextN) (least : Nat) (m n : Mv) (w : World) (hS : ∀ k, S k → k < w.heap.size) (hT : ∀ k, T k → k < w.heap.size) (hg : TextsC S w vg gs) (hc : TextsC T w vc cs) (hgl : gs.length ≤ 64) (hcl : cs.length ≤ 64) (hgo : ∀ t ∈ gs, TextOk t) (hco : ∀ t ∈ cs, TextOk t) (hl : least < 18446744073709551616)
    (hmn : candN least gs cs = [m, n]) (hm : MvOk m) (hn : MvOk n) (hlt : ordN n m < 0) :
    Calls Try.prog 13 #[vg, vc, .float .f64 least] w fun e w' => ∃ o, e = .returned (.tuple #[o, .int .i64 0]) ∧ OwnV w' w.heap.size o (chosenF [n, m] [] []) ∧ Below w.heap.size w w' := by
  have HCN := cands_any S T vg vc gs cs least w hS hT hg hc hgl hcl hgo hco hl
  rw [hmn] at HCN
  have HC := Lib.hid HCN
  have HSO := Lib.hid (fun X cap W a b c => sort2_any X cap m n W a b c hm hn hlt)
  have HCH := Lib.hid (fun W v h => chosen_any (fun k => k < W.heap.size) v [n, m] W (fun _ h => h) h (by simp) (by intro x hx; simp at hx; rcases hx with rfl | rfl; exact hn; exact hm))
  obtain ⟨ga, gc, rfl⟩ := hg.shape
  obtain ⟨ca, cc, rfl⟩ := hc.shape
  clear hS hT hg hc hgo hco hl HCN hmn hm hn hlt
  generalize gs.length = n1 at *
  generalize cs.length = n2 at *
  have g1 : decide ((64 : Int) < (n1 : Int)) = false := decide_eq_false (by omega)
  have g2 : decide ((64 : Int) < (n2 : Int)) = false := decide_eq_false (by omega)
  go_enter Try.func13, Try.ntmps13
  go_wp2_with fail
  refine (HC.out).mono ?_
  rintro e w1 ⟨v, rfl, ho, hb1⟩
  obtain ⟨X, cap, rfl, h1, h2, h3, h4, h5, h6⟩ := ownV_two ho
  have B1 := Lib.hid hb1
  have H5 := Lib.hid h5
  have H6 := Lib.hid h6
  clear ho hb1 h5 h6
  go_wp2_with fail
  refine (HSO.out X cap w1 h2 H5.out H6.out).mono ?_
  rintro e w2 ⟨rfl, t2, hb2⟩
  have T2 := Lib.hid (two_cells t2 (Nat.lt_of_lt_of_le h2 hb2.size) h3 h4)
  have B2 := Lib.hid (B1.out.trans (hb2.mono h1))
  clear t2 hb2
  go_wp2_with fail
  refine (HCH.out w2 _ T2.out).mono ?_
  rintro e w3 ⟨o, rfl, o3, hb3⟩
  have O3 := Lib.hid (own_weak o3 B2.out.size)
  have B3 := Lib.hid (B2.out.trans (hb3.mono B2.out.size))
  clear o3 hb3
  go_wp2_with fail
  go_ret2
  exact ⟨_, rfl, O3.out, B3.out⟩
end Go.Proofs.Ytaajfekolokaoaa
