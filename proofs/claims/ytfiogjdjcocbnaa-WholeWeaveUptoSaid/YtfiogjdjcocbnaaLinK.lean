/- The walk of Diff. -/
import Derived.Test.YtfiogjdjcocbnaaLinJ
import Derived.Test.YtfiogjdjcocbnaaStep
import Derived.Deep.DrawnRows
namespace Go.Proofs.Ytfiogjdjcocbnaa
open Go.RowKit
attribute [local go_sem ↓] Go.wp_at_zero Go.wp_at_succ

/-- Places within both lists, one behind the other. -/
def StepsOk (la lb : Nat) : Nat → Nat → List (Nat × Nat) → Prop
  | _, _, [] => True
  | i, j, p :: r => i ≤ p.1 ∧ p.1 ≤ la ∧ j ≤ p.2 ∧ p.2 ≤ lb ∧ StepsOk la lb (p.1 + 1) (p.2 + 1) r
theorem steps_ok {α : Type} {a b : List α} : ∀ {P : List (Nat × Nat)} {i j : Nat}, i ≤ a.length → j ≤ b.length → PairsOk a b i j P → StepsOk a.length b.length i j (P ++ [(a.length, b.length)])
  | [], _, _, hi, hj, _ => ⟨hi, Nat.le_refl _, hj, Nat.le_refl _, trivial⟩
  | _ :: _, _, _, _, _, ⟨h1, h2, h3, h4, _, h6⟩ => ⟨h1, by omega, h2, by omega, steps_ok (by omega) (by omega) h6⟩
theorem Try.info58h : (Try.prog.info? 58).map (fun i => (i.zero, i.size, i.bytes)) = some (some (.agg #[.int .i64 0, .slice none 0 0, .slice none 0 0]), 3, 56) := by kernel_rfl
theorem srcH_one (w : World) (x : Int) (a1 a2 : Option Addr) (n1 c1 n2 c2 : Nat) : Src Try.prog 3 38 (.slice (some ⟨w.heap.size, 0, none⟩) 1 1) 1 [.int .i64 x, .slice a1 n1 c1, .slice a2 n2 c2] (w.alloc (.cells #[.int .i64 x, .slice a1 n1 c1, .slice a2 n2 c2] 58)) :=
  Src.ofSlice _ Try.underlying38 _ 1 1 _ rfl (fun j u hj => by
    rw [add_pos, Nat.zero_add, World.cell?_alloc_mark]; simpa using hj) (fun u hu => by
    simp at hu; rcases hu with rfl | rfl | rfl <;> rfl)
theorem any_step {K : Act → World → Prop} {a : Act} {w : World} (h : ∀ w1, w1 = w → K a w1) : K a w := h _ rfl
theorem OwnR_drewN {E : Type} {rel : (Nat → Prop) → World → E → List Value → Prop} {t : TypeId} {sz B : Nat} {S : Nat → Prop} {w : World} {v : Value} {css : List (List Value)} {es : List E} (hr : Keeps rel) (h : OwnR rel t sz S w B v css es) (n : Nat) : OwnR rel t sz S (w.drewN n) B v css es :=
  ⟨own_below h.own (fun _ _ _ => rfl), h.len, h.each, h.one, fun j e cs he hc => hr _ _ _ _ _ _ (h.reads j e cs he hc) (fun _ hk => ⟨hk, rfl⟩)⟩
theorem OwnR_alloc {E : Type} {rel : (Nat → Prop) → World → E → List Value → Prop} {t : TypeId} {sz B : Nat} {S : Nat → Prop} {w : World} {v : Value} {css : List (List Value)} {es : List E} (hr : Keeps rel) (h : OwnR rel t sz S w B v css es) (o : Obj) : OwnR rel t sz S (w.alloc o) B v css es :=
  ⟨own_below h.own (fun _ _ hk => Below.heap_alloc _ _ _ hk), h.len, h.each, h.one, fun j e cs he hc => hr _ _ _ _ _ _ (h.reads j e cs he hc) (fun _ hk => ⟨⟨hk.1, by simp; omega, hk.2.2⟩, Below.heap_alloc _ _ _ hk.2.1⟩)⟩
theorem ownR_slice {E : Type} {rel : (Nat → Prop) → World → E → List Value → Prop} {t : TypeId} {sz B : Nat} {S : Nat → Prop} {w : World} {v : Value} {css : List (List Value)} {es : List E} (h : OwnR rel t sz S w B v css es) : ∃ a c, v = .slice a es.length c := by
  rcases h.own.2 with ⟨e, hn⟩ | ⟨g, cap, cur, e, _⟩
  · rw [hn]; exact ⟨none, 0, e⟩
  · exact ⟨_, _, e⟩
/-- What Diff leaves. -/
def HunksP (w : World) (hs : List (HunkN (List UInt8))) (e : Ending) (w' : World) : Prop := ∃ v, e = .returned (.tuple #[v, .int .i64 0]) ∧ HunksC (fun k => w.heap.size ≤ k ∧ k < w'.heap.size) w' v hs ∧ Below w.heap.size w w'
set_option maxRecDepth 100000 in
set_option maxHeartbeats 8000000 in
theorem diff_any (S T : Nat → Prop) (va vb : Value) (a b : List (List UInt8)) (w : World) (hS : ∀ k, S k → k < w.heap.size) (hT : ∀ k, T k → k < w.heap.size) (ha : StrsC S w va a) (hb : StrsC T w vb b) (hal : a.length ≤ 4194304) (hbl : b.length ≤ 4194304) (hax : ∀ x ∈ a, x.length ≤ 4194304) (hbx : ∀ x ∈ b, x.length ≤ 4194304)
    (hm : a.length * b.length ≤ 1048576) :
    Calls Try.prog 27 #[va, vb] w (HunksP w (diffN a b)) := by
  obtain ⟨i0, hi, hz0, hz1, hz2⟩ := info_parts Try.info46p
  obtain ⟨j0, hj, hy0, hy1, hy2⟩ := info_parts Try.info58h
  have HC := Lib.hid (pairs_any S T va vb a b w hS hT ha hb hal hbl hax hbx hm)
  obtain ⟨aa, ac, rfl⟩ := ha.shape
  obtain ⟨ba, bc, rfl⟩ := hb.shape
  have HS := Lib.hid hS
  have HT := Lib.hid hT
  have HA := Lib.hid ha
  have HB := Lib.hid hb
  have hpl : (pairsN a 0 b 0).length ≤ 4194304 := by rw [pairsN_len]; have := (lcs_len a b).1; omega
  have HST := Lib.hid (steps_ok (Nat.zero_le _) (Nat.zero_le _) (pairs_ok a b))
  obtain ⟨D, hD⟩ : ∃ D, diffN a b = D := ⟨_, rfl⟩
  rw [hD]
  have HD : Hid (hunksN a b 0 0 (pairsN a 0 b 0 ++ [(a.length, b.length)]) = D) := Lib.hid hD
  obtain ⟨P, hP⟩ : ∃ P, pairsN a 0 b 0 = P := ⟨_, rfl⟩
  rw [hP] at HC hpl HST HD
  clear hS hT ha hb hax hbx hm hD hP
  go_enter Try.func27, Try.ntmps27
  go_wp2_with fail
  refine HC.out.mono ?_
  rintro e w1 ⟨v, rfl, ho1, hb1⟩
  have O1 := Lib.hid ho1
  have B1 := Lib.hid hb1
  have hs1 := hb1.size
  obtain ⟨pa, pc, rfl⟩ := ownP_slice ho1
  clear ho1 hb1
  go_wp2_with (at_builtin; refine wpList_own_src _ rfl _ _ 31 31 rfl w.heap.size 46 i0 (.agg #[.int .i64 0, .int .i64 0]) 2 16 Try.underlying31 hi hz0 hz1 hz2 rfl (by decide) _ _ _ rfl (World.ownsRow.alloc O1.out _) _ 1 [.int .i64 (a.length : Int), .int .i64 (b.length : Int)] rfl (srcP_one _ _ _) (by unfold maxLen; omega) (by omega) (by simp; omega) ?_)
  intro v2 w2 hown2 hg2
  have O2 : Hid (OwnP w2 w.heap.size v2 (P ++ [(a.length, b.length)])) := Lib.hid (ownP_push hown2)
  have B2 : Hid (Below w.heap.size w w2) := Lib.hid ((B1.out.alloc B1.out.size _).grown hg2.gb (by simp; omega) (fun j hj => (World.ownsRow.lt O1.out j hj).1))
  have hql : (P ++ [(a.length, b.length)]).length ≤ 4194305 := by simp; omega
  clear hown2 hg2 O1 B1
  generalize P ++ [(a.length, b.length)] = Q at *
  obtain ⟨qa, qc, rfl⟩ := ownP_slice O2.out
  have hs2 := B2.out.size
  go_wp2_with fail
  go_loopw [8, 9, 10, 31] (fun h i j n wr => ∃ (x y k : Nat) (css : List (List Value)) (hs : List (HunkN (List UInt8))), k ≤ Q.length ∧ n = .int .i64 k ∧ i = .int .i64 x ∧ j = .int .i64 y ∧ x ≤ 4194305 ∧ y ≤ 4194305 ∧ hs.length ≤ k ∧ Hid (StepsOk a.length b.length x y (Q.drop k)) ∧ Hid (hs ++ hunksN a b x y (Q.drop k) = D) ∧ Hid (OwnR hunkRel 58 3 (fun q => w2.heap.size ≤ q) wr w2.heap.size h css hs) ∧ Hid (Below w2.heap.size w2 wr)) (fun _ _ _ n _ => Q.length - (intOf n).toNat)
  case atStart => exact ⟨0, 0, 0, [], [], Nat.zero_le _, rfl, rfl, rfl, by omega, by omega, Nat.le_refl _, HST, HD, Lib.hid (OwnR.nil _ _ _ _ _ _), Lib.hid (Below.refl _ _)⟩
  case round =>
    obtain ⟨x, y, k, css, hs, hk, rfl, rfl, rfl, hx, hy, hhk, hSt, hE, hO, hW⟩ := hrel
    obtain ⟨hva, hvc, rfl⟩ := ownR_slice hO.out
    by_cases hlt : k < Q.length
    · obtain ⟨g, o, rfl, hSg, _, _, hcq⟩ := (ownP_c O2.out).at (by omega)
      have hsz := hW.out.size
      have hd : Q.drop k = Q.getD k (0, 0) :: Q.drop (k + 1) := by rw [List.drop_eq_getElem_cons hlt, getD_at hlt]
      obtain ⟨q1, q2⟩ := p2_at Q k hlt
      have c1 := (hW.out.cell (p := ⟨g, o + k * 2, none⟩) hSg.2).trans (hcq _ _ q1)
      have c2 := (hW.out.cell (p := ⟨g, o + k * 2 + 1, none⟩) hSg.2).trans (hcq _ _ q2)
      have HSt := hSt.out
      have HEt := hE.out
      rw [hd] at HSt HEt
      generalize Q.getD k (0, 0) = p at *
      obtain ⟨p0, p1⟩ := p
      obtain ⟨s1, s2, s3, s4, s5⟩ := HSt
      have SN := Lib.hid s5
      simp only at s1 s2 s3 s4 c1 c2
      by_cases hch : x < p0 ∨ y < p1
      · rw [hunksN_yes _ hch] at HEt
        have HN := Lib.hid HEt
        clear hd HEt hSt hE s5 hcq q1 q2
        have hca : ((a.drop x).take (p0 - x)).length ≤ 4194304 := by simp; omega
        have hcb : ((b.drop y).take (p1 - y)).length ≤ 4194304 := by simp; omega
        obtain ⟨a1, c1', hra, hsa⟩ := HA.out.cut s1 s2
        obtain ⟨a2, c2', hrb, hsb⟩ := HB.out.cut s3 s4
        have HSA := Lib.hid hsa
        have HSB := Lib.hid hsb
        have hn5 : wr.heap[wr.heap.size]? = none := by simp
        have HN5 := Lib.hid (new_five wr #[.int .i64 (p0 : Int), .int .i64 (p1 : Int)] 46)
        have HW0 : Hid (Below w2.heap.size w2 (wr.alloc (.cells #[.int .i64 (p0 : Int), .int .i64 (p1 : Int)] 46))) := Lib.hid (hW.out.alloc hsz _)
        have HWK : Hid (∀ q, q < wr.heap.size → (wr.alloc (.cells #[.int .i64 (p0 : Int), .int .i64 (p1 : Int)] 46)).heap[q]? = wr.heap[q]?) := Lib.hid (fun q hq => Below.heap_alloc _ _ _ hq)
        have HWP : Hid (wr.heap.size < (wr.alloc (.cells #[.int .i64 (p0 : Int), .int .i64 (p1 : Int)] 46)).heap.size) := Lib.hid (by simp)
        have hpb0 : wr.heap.size < (wr.alloc (.cells #[.int .i64 (p0 : Int), .int .i64 (p1 : Int)] 46)).heap.size := by simp
        generalize (a.drop x).take (p0 - x) = ca at *
        generalize (b.drop y).take (p1 - y) = cb at *
        clear hsa hsb hn5
        have hch2 : x < p0 ∨ (p0 ≤ x ∧ y < p1) := by omega
        clear hch
        rcases hch2 with hxp | ⟨hxp, hyp⟩
        all_goals
          go_wp2_with fail
          generalize wr.alloc (.cells #[.int .i64 (p0 : Int), .int .i64 (p1 : Int)] 46) = wp at *
          obtain ⟨pb, hpbe⟩ : ∃ pb, wr.heap.size = pb := ⟨_, rfl⟩
          have HPB := Lib.hid hpbe
          have hpb : pb < wp.heap.size := by omega
          have HF : Hid (∀ W : World, W.heap[pb]? = wp.heap[pb]? → W.cell? ⟨pb, 0, none⟩ = some (.int .i64 (p0 : Int)) ∧ W.cell? ⟨pb, 1, none⟩ = some (.int .i64 (p1 : Int))) := Lib.hid (fun W hW => by
            have h := HN5.out
            rw [hpbe] at h
            have h2 := hW.trans h
            exact ⟨by rw [cell_of_row _ _ _ _ _ _ h2]; rfl, by rw [cell_of_row _ _ _ _ _ _ h2]; rfl⟩)
          have HBwp := Lib.hid (B2.out.trans (HW0.out.mono hs2))
          have HCL1 : Hid (∀ W, Below wp.heap.size wp W → Calls Try.prog 49 #[.slice a1 ca.length c1'] W fun e w' => ∃ v', e = .returned v' ∧ OwnS w' W.heap.size v' ca ∧ Below W.heap.size W w') := Lib.hid (fun W hb => clone_any S _ ca W (fun q hq => by have := HS.out q hq; have := HBwp.out.size; have := hb.size; omega) (HSA.out.kept (fun q hq => ⟨hq, (hb.block q (by have := HS.out q hq; have := HBwp.out.size; omega)).trans (HBwp.out.block q (HS.out q hq))⟩)) hca)
          have HCL2 : Hid (∀ W, Below wp.heap.size wp W → Calls Try.prog 49 #[.slice a2 cb.length c2'] W fun e w' => ∃ v', e = .returned v' ∧ OwnS w' W.heap.size v' cb ∧ Below W.heap.size W w') := Lib.hid (fun W hb => clone_any T _ cb W (fun q hq => by have := HT.out q hq; have := HBwp.out.size; have := hb.size; omega) (HSB.out.kept (fun q hq => ⟨hq, (hb.block q (by have := HT.out q hq; have := HBwp.out.size; omega)).trans (HBwp.out.block q (HT.out q hq))⟩)) hcb)
          rw [hpbe]
          clear c1 c2 hpb0 HN5 hpbe
          refine wp_region_held_drew (S := (fun W => W.cell? ⟨pb, 0, none⟩ = some (.int .i64 (p0 : Int)) ∧ W.cell? ⟨pb, 1, none⟩ = some (.int .i64 (p1 : Int)))) (by kernel_rfl) (by exact HF.out _ rfl) (fun hHeld => ?_)
          have HBd : Hid (Below wp.heap.size wp wp.drew) := Lib.hid ((Below.refl _ _).drew)
          have HPd : Hid (wp.drew.heap[pb]? = wp.heap[pb]?) := Lib.hid rfl
          generalize wp.drew = wd at *
          refine wpAnyH_take (i := 0) (oi := ⟨_, _, _, _, _, _⟩) (v := ?_) rfl (by kernel_rfl) (by kernel_rfl) (by kernel_rfl) (fun _ _ _ h => h) (Or.inl ⟨by rfl, ?_⟩) (by assumption) ?_
          rotate_left
          · intro w hSw; (try dsimp only at hSw); first | (go_simp; done) | (go_simp; with_reducible rfl)
          try simp only [Act.put, List.setIfInBounds_toArray, List.set_cons_zero, List.set_cons_succ]
          refine wpAnyH_take (i := 1) (oi := ⟨_, _, _, _, _, _⟩) (v := ?_) rfl (by kernel_rfl) (by kernel_rfl) (by kernel_rfl) (fun _ _ _ h => h) (Or.inl ⟨by rfl, ?_⟩) (by assumption) ?_
          rotate_left
          · intro w hSw; (try dsimp only at hSw); first | (go_simp; done) | (go_simp; with_reducible rfl)
          try simp only [Act.put, List.setIfInBounds_toArray, List.set_cons_zero, List.set_cons_succ]
          refine wpAnyH_take (i := 2) (oi := ⟨_, _, _, _, _, _⟩) (v := ?_) rfl (by kernel_rfl) (by kernel_rfl) (by kernel_rfl) (fun _ _ _ h => h) (Or.inl ⟨by rfl, ?_⟩) (by assumption) ?_
          rotate_left
          · intro w hSw; (try dsimp only at hSw); first | (go_simp; done) | (go_simp; with_reducible rfl)
          try simp only [Act.put, List.setIfInBounds_toArray, List.set_cons_zero, List.set_cons_succ]
          refine wpAnyH_take (i := 3) (oi := ⟨_, _, _, _, _, _⟩) (v := ?_) rfl (by kernel_rfl) (by kernel_rfl) (by kernel_rfl) (fun _ _ _ h => h) (Or.inl ⟨by rfl, ?_⟩) (by assumption) ?_
          rotate_left
          · intro w hSw; (try dsimp only at hSw); first | (go_simp; done) | (go_simp; with_reducible rfl)
          try simp only [Act.put, List.setIfInBounds_toArray, List.set_cons_zero, List.set_cons_succ]
          refine wpAnyH_take (i := 4) (oi := ⟨_, _, _, _, _, _⟩) (v := ?_) rfl (by kernel_rfl) (by kernel_rfl) (by kernel_rfl) (fun _ _ _ h => h) (Or.inl ⟨by rfl, ?_⟩) (by assumption) ?_
          rotate_left
          · intro w hSw; (try dsimp only at hSw); first | (go_simp; done) | (go_simp; with_reducible rfl)
          try simp only [Act.put, List.setIfInBounds_toArray, List.set_cons_zero, List.set_cons_succ]
          refine wpAnyH_take (i := 5) (oi := ⟨_, _, _, _, _, _⟩) (v := ?_) rfl (by kernel_rfl) (by kernel_rfl) (by kernel_rfl) (fun _ _ _ h => h) (Or.inl ⟨by rfl, ?_⟩) (by assumption) ?_
          rotate_left
          · intro w hSw; (try dsimp only at hSw); first | (go_simp; done) | (go_simp; with_reducible rfl)
          try simp only [Act.put, List.setIfInBounds_toArray, List.set_cons_zero, List.set_cons_succ]
          refine wpAnyH_take (i := 6) (oi := ⟨_, _, _, _, _, _⟩) (v := ?_) rfl (by kernel_rfl) (by kernel_rfl) (by kernel_rfl) (fun _ _ _ h => h) (Or.inl ⟨by rfl, ?_⟩) (by assumption) ?_
          rotate_left
          · intro w hSw; (try dsimp only at hSw); first | (go_simp; done) | (go_simp; with_reducible rfl)
          try simp only [Act.put, List.setIfInBounds_toArray, List.set_cons_zero, List.set_cons_succ]
          refine wpAnyH_take (i := 8) (oi := ⟨_, _, _, _, _, _⟩) (v := ?_) rfl (by kernel_rfl) (by kernel_rfl) (by kernel_rfl) (fun _ _ _ h => h) (Or.inl ⟨by rfl, ?_⟩) (by assumption) ?_
          rotate_left
          · intro w hSw; (try dsimp only at hSw); first | (go_simp; done) | (go_simp; with_reducible rfl)
          try simp only [Act.put, List.setIfInBounds_toArray, List.set_cons_zero, List.set_cons_succ]
          refine wpAnyH_take (i := 9) (oi := ⟨_, _, _, _, _, _⟩) (v := ?_) rfl (by kernel_rfl) (by kernel_rfl) (by kernel_rfl) (fun _ _ _ h => h) (Or.inl ⟨by rfl, ?_⟩) (by assumption) ?_
          rotate_left
          · intro w hSw; (try dsimp only at hSw); first | (go_simp; done) | (go_simp; with_reducible rfl)
          try simp only [Act.put, List.setIfInBounds_toArray, List.set_cons_zero, List.set_cons_succ]
          refine wpAnyH_take (i := 10) (oi := ⟨_, _, _, _, _, _⟩) (v := ?_) rfl (by kernel_rfl) (by kernel_rfl) (by kernel_rfl) (fun _ _ _ h => h) (Or.inl ⟨by rfl, ?_⟩) (by assumption) ?_
          rotate_left
          · intro w hSw; (try dsimp only at hSw); first | (go_simp; done) | (go_simp; with_reducible rfl)
          try simp only [Act.put, List.setIfInBounds_toArray, List.set_cons_zero, List.set_cons_succ]
          refine wpAnyH_take (i := 11) (oi := ⟨_, _, _, _, _, _⟩) (v := ?_) rfl (by kernel_rfl) (by kernel_rfl) (by kernel_rfl) (fun _ _ _ h => h) (Or.inl ⟨by rfl, ?_⟩) (by assumption) ?_
          rotate_left
          · intro w hSw; (try dsimp only at hSw); first | (go_simp; done) | (go_simp; with_reducible rfl)
          try simp only [Act.put, List.setIfInBounds_toArray, List.set_cons_zero, List.set_cons_succ]
          refine wpAnyH_take (i := 12) (oi := ⟨_, _, _, _, _, _⟩) (v := ?_) rfl (by kernel_rfl) (by kernel_rfl) (by kernel_rfl) (fun _ _ _ h => h) (Or.inl ⟨by rfl, ?_⟩) (by assumption) ?_
          rotate_left
          · intro w hSw; (try dsimp only at hSw); first | (go_simp; done) | (go_simp; with_reducible rfl)
          try simp only [Act.put, List.setIfInBounds_toArray, List.set_cons_zero, List.set_cons_succ]
          refine wpAnyH_ready (rs := [7]) (by kernel_rfl) (by simp) ?_
          refine AllReadyH.cons (o := ⟨_, _, _, _, _, _⟩) rfl (fun K hK => ?_) AllReadyH.nil
          go_simp
          refine (HCL1.out wd HBd.out).mono ?_
          rintro e w5 ⟨v5, rfl, hO5, hb5⟩
          obtain ⟨sa5, sc5, rfl⟩ := ownS_slice hO5
          have B5 : Hid (Below wp.heap.size wp w5) := Lib.hid (HBd.out.trans (hb5.mono HBd.out.size))
          have P5 : Hid (w5.heap[pb]? = wp.heap[pb]?) := Lib.hid (B5.out.block pb hpb)
          have O5 := Lib.hid hO5
          have Z5 := Lib.hid hb5.size
          clear hO5 hb5 HPd
          try go_wp2_with fail
          refine hK.out _ _ (by exact HF.out _ (Hid.out (by assumption))) (fun hHeld => ?_)
          clear hK K
          try simp only [Act.put, List.setIfInBounds_toArray, List.set_cons_zero, List.set_cons_succ]
          refine wpAnyH_ready (rs := [13]) (by kernel_rfl) (by simp) ?_
          refine AllReadyH.cons (o := ⟨_, _, _, _, _, _⟩) rfl (fun K hK => ?_) AllReadyH.nil
          go_simp
          refine (HCL2.out w5 B5.out).mono ?_
          rintro e w6 ⟨v6, rfl, hO6, hb6⟩
          obtain ⟨sa6, sc6, rfl⟩ := ownS_slice hO6
          have B6 : Hid (Below wp.heap.size wp w6) := Lib.hid (B5.out.trans (hb6.mono B5.out.size))
          have P6 : Hid (w6.heap[pb]? = wp.heap[pb]?) := Lib.hid (B6.out.block pb hpb)
          have O6 := Lib.hid (ownS_c hO6)
          have O5b := Lib.hid ((ownS_c O5.out).kept (S' := fun q => wp.heap.size ≤ q ∧ q < w5.heap.size) (w' := w6) (fun q hq => ⟨⟨by have := HBd.out.size; omega, hq.2⟩, hb6.block q hq.2⟩))
          have Z6 := Lib.hid hb6.size
          clear hO6 hb6 P5 O5
          try go_wp2_with fail
          refine hK.out _ _ (by exact HF.out _ (Hid.out (by assumption))) (fun hHeld => ?_)
          clear hK K
          try simp only [Act.put, List.setIfInBounds_toArray, List.set_cons_zero, List.set_cons_succ]
          refine wpAnyH_take (i := 14) (oi := ⟨_, _, _, _, _, _⟩) (v := ?_) rfl (by kernel_rfl) (by kernel_rfl) (by kernel_rfl) (fun _ _ _ h => h) (Or.inl ⟨by rfl, ?_⟩) (by assumption) ?_
          rotate_left
          · intro w hSw; (try dsimp only at hSw); first | (go_simp; done) | (go_simp; with_reducible rfl)
          try simp only [Act.put, List.setIfInBounds_toArray, List.set_cons_zero, List.set_cons_succ]
          refine wpAnyH_ready (rs := [15]) (by kernel_rfl) (by simp) ?_
          refine AllReadyH.cons (o := ⟨_, _, _, _, _, _⟩) rfl (fun K hK => ?_) AllReadyH.nil
          go_simp
          refine any_step (fun w7 hN => ?_)
          have B7 : Hid (Below wp.heap.size wp w7) := Lib.hid (by rw [hN]; exact Below.alloc B6.out B6.out.size _)
          have P7 : Hid (w7.heap[pb]? = wp.heap[pb]?) := Lib.hid (B7.out.block pb hpb)
          have SRC7 : Hid (Src Try.prog 3 38 (.slice (some ⟨w6.heap.size, 0, none⟩) 1 1) 1 [.int .i64 (x : Int), .slice sa5 ca.length sc5, .slice sa6 cb.length sc6] w7) := Lib.hid (by rw [hN]; exact srcH_one w6 _ _ _ _ _ _ _)
          have O7 : Hid (hunkRel (fun q => wp.heap.size ≤ q ∧ q < w7.heap.size) w7 ⟨(x : Int), ca, cb⟩ [.int .i64 (x : Int), .slice sa5 ca.length sc5, .slice sa6 cb.length sc6]) := Lib.hid ⟨_, _, rfl, O5b.out.kept (fun q hq => ⟨⟨hq.1, by rw [hN]; simp; have := Z6.out; omega⟩, by rw [hN]; exact Below.heap_alloc _ _ _ (by have := Z6.out; omega)⟩), O6.out.kept (fun q hq => ⟨⟨by have := B5.out.size; omega, by rw [hN]; simp; omega⟩, by rw [hN]; exact Below.heap_alloc _ _ _ hq.2⟩)⟩
          have OW7 : Hid (w7.ownsRow w2.heap.size 58 3 (.slice hva hs.length hvc) hs.length css.flatten) := Lib.hid (own_below hO.out.own (fun q _ hq => (B7.out.block q (by have := HWP.out; omega)).trans (HWK.out q hq)))
          clear hN P6 O5b O6
          try go_wp2_with fail
          refine hK.out _ _ (by exact HF.out _ (Hid.out (by assumption))) (fun hHeld => ?_)
          clear hK K
          try simp only [Act.put, List.setIfInBounds_toArray, List.set_cons_zero, List.set_cons_succ]
          refine wpAnyH_ready (rs := [16]) (by kernel_rfl) (by simp) ?_
          refine AllReadyH.cons (o := ⟨_, _, _, _, _, _⟩) rfl (fun K hK => ?_) AllReadyH.nil
          refine step_own_src _ rfl _ _ 38 38 (by rfl) w2.heap.size 58 j0 (.agg #[.int .i64 0, .slice none 0 0, .slice none 0 0]) 3 56 Try.underlying38 hj hy0 hy1 hy2 rfl (by decide) _ _ _ (by rfl) OW7.out _ _ _ (by rfl) SRC7.out (by unfold maxLen; omega) (by omega) (by have := B7.out.size; have := HWP.out; omega) ?_
          intro v8 w8 hown8 hg8
          have P8 : Hid (w8.heap[pb]? = wp.heap[pb]?) := Lib.hid ((hg8.gb.block pb (by have := B7.out.size; omega) (fun e => by have := (World.ownsRow.lt hO.out.own _ e.symm).2; have := HPB.out; omega)).trans P7.out)
          have B8 : Hid (Below w2.heap.size w2 w8) := Lib.hid ((HW0.out.trans (B7.out.mono HW0.out.size)).grown hg8.gb (by have := B7.out.size; have := HWP.out; omega) (fun q hq => (World.ownsRow.lt OW7.out q hq).1))
          have O8 := Lib.hid (hO.out.push hunk_keeps (w2 := w7) (fun q hq _ => (B7.out.block q (by have := HWP.out; omega)).trans (HWK.out q hq)) (by have := B7.out.size; have := HWP.out; omega) hg8 rfl (fun u hu => by simp at hu; rcases hu with rfl | rfl | rfl <;> rfl) hown8 (hunk_keeps _ _ _ _ _ _ O7.out (fun q hq => ⟨⟨by have := HWP.out; omega, hq.2, fun e => by have := (World.ownsRow.lt hO.out.own q e).2; have := HWP.out; omega⟩, rfl⟩)))
          clear hown8 hg8 P7 SRC7 O7 OW7
          refine hK.out _ _ (by exact HF.out _ (Hid.out (by assumption))) (fun hHeld => ?_)
          clear hK K
          try simp only [Act.put, List.setIfInBounds_toArray, List.set_cons_zero, List.set_cons_succ]
          refine wpAnyH_take (i := 17) (oi := ⟨_, _, _, _, _, _⟩) (v := ?_) rfl (by kernel_rfl) (by kernel_rfl) (by kernel_rfl) (fun _ _ _ h => h) (Or.inl ⟨by rfl, ?_⟩) (by assumption) ?_
          rotate_left
          · intro w hSw; (try dsimp only at hSw); first | (go_simp; done) | (go_simp; with_reducible rfl)
          try simp only [Act.put, List.setIfInBounds_toArray, List.set_cons_zero, List.set_cons_succ]
          refine wpAnyH_done (by kernel_rfl) ?_ _
          have HB8 := Lib.hid B8.out.size
          have hz0 := (HF.out w8 P8.out).1
          have hz1 := (HF.out w8 P8.out).2
          clear hHeld HF
          go_wp2_with fail
          go_quiet (fail)
          have O9 := Lib.hid (OwnR_drewN hunk_keeps O8.out nq)
          have B9 := Lib.hid (B8.out.trans (drewn w2.heap.size w8 nq))
          clear O8 B8 hz0 hz1
          generalize w8.drewN nq = w9 at *
          go_wp2_with fail
          go_roundw
          case rel => exact ⟨p0 + 1, p1 + 1, k + 1, _, hs ++ [⟨(x : Int), ca, cb⟩], by omega, by go_num, by go_num, by go_num, by omega, by omega, by simp; omega, SN, Lib.hid (by rw [List.append_assoc]; exact HN.out), O9, B9⟩
          case measure => simp [intOf]; omega
      · rw [hunksN_no _ hch] at HEt
        have HN := Lib.hid HEt
        clear hd HEt hSt hE s5 hcq q1 q2
        have hxp : ¬ x < p0 := fun h => hch (Or.inl h)
        have hyp : ¬ y < p1 := fun h => hch (Or.inr h)
        have O8 := Lib.hid (OwnR_alloc hunk_keeps hO.out (.cells #[.int .i64 (p0 : Int), .int .i64 (p1 : Int)] 46))
        have B8 : Hid (Below w2.heap.size w2 (wr.alloc (.cells #[.int .i64 (p0 : Int), .int .i64 (p1 : Int)] 46))) := Lib.hid (hW.out.alloc hsz _)
        clear hch
        go_wp2_with fail
        go_quiet (fail)
        have O9 := Lib.hid (OwnR_drewN hunk_keeps O8.out nq)
        have B9 := Lib.hid (B8.out.trans (drewn w2.heap.size _ nq))
        clear O8 B8
        go_wp2_with fail
        go_roundw
        case rel => exact ⟨p0 + 1, p1 + 1, k + 1, _, hs, by omega, by go_num, by go_num, by go_num, by omega, by omega, by omega, SN, HN, O9, B9⟩
        case measure => simp [intOf]; omega
    · have HQ : Hid (hs = D) := Lib.hid (by
        have := hE.out
        rw [List.drop_eq_nil_of_le (show Q.length ≤ k by omega)] at this
        simpa [hunksN] using this)
      go_wp2_with fail
      go_ret2
      exact ⟨_, rfl, by rw [← HQ.out]; exact (hO.out.rows hunk_keeps).kept hunk_keeps (fun q hq => ⟨⟨by rcases hq.1 with h | h <;> omega, hq.2⟩, rfl⟩), B2.out.trans (hW.out.mono hs2)⟩
end Go.Proofs.Ytfiogjdjcocbnaa
