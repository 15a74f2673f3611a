/- The walk of sorted: members in the order of their names, each once, in a row of their own. -/
import Derived.Test.YtfphkbbgbfnhaaaDagN
namespace Go.Proofs.Ytfphkbbgbfnhaaa
open Go.RowKit Go.Shelf Go.Maps Go.Lib Go.Sort

set_option maxRecDepth 100000 in
set_option maxHeartbeats 1000000 in
theorem compact_nil (a : Option Addr) (c : Nat) (w : World) : Calls Try.prog 50 #[.slice a 0 c] w fun e w' => e = .returned (.slice a 0 c) ∧ w = w' := by
  go_enter Try.func50, Try.ntmps50
  go_wp2_with fail
  go_ret
  exact ⟨rfl, rfl⟩
theorem z59 (w : World) : (Go.sizeOf 59).run Try.prog w = .ok 1 w := by kernel_rfl
set_option maxRecDepth 100000 in
set_option maxHeartbeats 4000000 in
theorem sorted_any (B B2 : Nat) (S : Nat → Prop) (bg bm : Nat) (va v : Value) (D : DataW Unit) (mb : Nat → Nat) (g : Gr) (l : List Nat) (w : World) (h : GrAt B S w bg bm va D mb g) (ho : w.ownsRow B2 59 1 v l.length (pv mb l)) (hvS : ∀ k, v.ownBlock = some k → ¬ GrDom S va k) (hl : ∀ i ∈ l, i < g.length) (hll : l.length ≤ 4194304) :
    Calls Try.prog 40 #[v] w fun e w' => ∃ v' r, e = .returned v' ∧ w'.ownsRow w.heap.size 59 1 v' r.length (pv mb r) ∧ r.Pairwise (fun a b => nmOf g a < nmOf g b) ∧ (∀ i, i ∈ r ↔ i ∈ l) ∧ w.grownBy w' v.ownBlock := by
  obtain ⟨i0, hi, hz0, hz1, hz2⟩ := info_parts Try.info59p
  have HS := Lib.hid (sortM_any B B2 S bg bm va v D mb g l w h ho (fun k hk hs => hvS k hk (Or.inl hs)) hl hll)
  have HG := Lib.hid h
  have HVS := Lib.hid hvS
  have HL := Lib.hid hl
  have HO := Lib.hid ho
  obtain ⟨a, c, rfl⟩ := row_slice ho
  clear h ho hvS hl
  go_enter Try.func40, Try.ntmps40
  go_wp2_with fail
  refine HS.out.mono ?_
  rintro e w1 ⟨rfl, l2, o1, hp, hs, g1⟩
  have O1 := Lib.hid o1
  have HP := Lib.hid hp
  have HSO := Lib.hid hs
  have G1 := Lib.hid g1
  clear hp hs g1
  by_cases hl0 : l.length = 0
  · have ha : a = none ∧ c = 0 ∨ True := Or.inr trivial
    have hln : l = [] := List.length_eq_zero_iff.1 hl0
    have hR : Hid (∀ W : World, W.ownsRow w.heap.size 59 1 (.slice none 0 0) 0 []) := Lib.hid (fun W => World.ownsRow_nil _ _ _ _)
    rw [hl0] at O1 ⊢
    cases a with
    | none =>
      clear ha o1
      go_wp2_with fail
      refine (compact_nil _ _ _).mono ?_
      rintro e w2 ⟨rfl, rfl⟩
      go_wp2_with fail
      refine (Try.slices_Clone_nil _ _ _).mono ?_
      rintro e w3 ⟨rfl, rfl⟩
      go_wp2_with fail
      go_ret
      exact ⟨_, [], rfl, hR.out _, List.Pairwise.nil, fun i => by rw [hln], by have := G1.out; simpa [Value.ownBlock] using this⟩
    | some a =>
      clear ha o1
      go_wp2_with fail
      refine (compact_nil _ _ _).mono ?_
      rintro e w2 ⟨rfl, rfl⟩
      go_wp2_with fail
      obtain ⟨b, hb⟩ : ∃ b, a = ⟨b, 0, none⟩ := by
        rcases O1.out.2 with ⟨e, _⟩ | ⟨b, _, _, e, _⟩
        · cases e
        · injection e with e; injection e with e; exact ⟨b, e⟩
      subst hb
      refine (Try.slices_Clone i0 (.pointer none) 1 8 hi hz0 hz1 hz2 rfl (by decide) z59 b 0 0 c [] _ rfl (by unfold maxLen; omega) (by omega) (fun j u hj => by simp at hj) (fun u hu => by cases hu)).mono ?_
      rintro e w3 ⟨v', rfl, o3, _, b3⟩
      have O3 := Lib.hid o3
      have B3 := Lib.hid b3
      obtain ⟨a3, c3, rfl⟩ := row_slice o3
      clear o3 b3
      go_wp2_with fail
      go_ret
      exact ⟨_, [], rfl, own_base O3.out G1.out.size, List.Pairwise.nil, fun i => by rw [hln], kb_trans G1.out (kb_any B3.out _)⟩
  · rcases o1.2 with ⟨_, e0⟩ | ⟨b, cap, cur, e1, hb1, hcur, hnc, hcm, _⟩
    · exact absurd e0 hl0
    · injection e1 with e1 _ e3
      subst e1 e3
      have hl2 : l2.length = l.length := HP.out.length_eq
      have hmem : ∀ i ∈ l2, i < g.length := fun i hi2 => HL.out i (HP.out.mem_iff.1 hi2)
      have hbS : ¬ S b := fun h => HVS.out b rfl (Or.inl h)
      have G1b : Hid (GrAt B S w1 bg bm va D mb g) := Lib.hid (HG.out.kept (fun k hk => G1.out.block k (HG.out.domlt k hk).2 (fun e => HVS.out k e.symm hk)) G1.out.size)
      have HCP := Lib.hid (compact_any B S bg bm va D mb g l2 b c w1 G1b.out hmem (by omega) (fun j hj => by
        have := World.ownsRow.cells o1 rfl j _ (pv_at hj)
        rwa [add_pos, Nat.zero_add] at this) (fun j => o1.frozenAt j) (by omega) (by unfold maxLen at hcm; exact hcm) hbS)
      rw [hl2] at HCP
      have hcn : (compN l2).length ≤ 4194304 := by have := compN_len l2; omega
      have HAS : Hid ((compN l2).Pairwise (fun a b => nmOf g a < nmOf g b)) := Lib.hid (compN_asc (nmOf g) l2 (fun i h1 j h2 h3 => nm_inj HG.out.good (hmem i h1) (hmem j h2) h3) HSO.out)
      have HME : Hid (∀ i, i ∈ compN l2 ↔ i ∈ l) := Lib.hid (fun i => (compN_mem l2 i).trans HP.out.mem_iff)
      clear o1 hb1 hcur hnc hcm hl2 hmem hbS hl0 hll
      generalize compN l2 = r at *
      go_wp2_with fail
      refine HCP.out.mono ?_
      rintro e w2 ⟨rfl, hc2, g2⟩
      have G2 := Lib.hid g2
      have HC2 := Lib.hid hc2
      clear g2 hc2
      go_wp2_with fail
      refine (Try.slices_Clone i0 (.pointer none) 1 8 hi hz0 hz1 hz2 rfl (by decide) z59 b 0 r.length c (pv mb r) _ (by rw [pv_len]; omega) (by unfold maxLen; omega) (by omega) (fun j u hj => by
        have hjl : j < r.length := by have := (List.getElem?_eq_some_iff.1 hj).1; rwa [pv_len] at this
        rw [pv_at hjl] at hj
        injection hj with hj
        rw [← hj, Nat.zero_add]; exact HC2.out j hjl) (pv_one mb r)).mono ?_
      rintro e w3 ⟨v', rfl, o3, _, b3⟩
      have O3 := Lib.hid o3
      have B3 := Lib.hid b3
      obtain ⟨a3, c3, rfl⟩ := row_slice o3
      clear o3 b3
      go_wp2_with fail
      go_ret
      refine ⟨_, r, rfl, own_base O3.out (Nat.le_trans G1.out.size G2.out.size), HAS.out, HME.out, kb_trans G1.out (kb_trans G2.out (kb_any B3.out _))⟩
end Go.Proofs.Ytfphkbbgbfnhaaa
