/- The walk of Back. -/
import Derived.Test.YtfiogjdjcocbnaaLinK
import Derived.Test.YtfiogjdjcocbnaaLinM
namespace Go.Proofs.Ytfiogjdjcocbnaa
open Go.RowKit
attribute [local go_sem ↓] Go.wp_at_zero Go.wp_at_succ

/-- How many old lines hunks have. -/
def oldsN : List (HunkN (List UInt8)) → Nat
  | [] => 0
  | h :: r => h.old.length + oldsN r
theorem hunks_sizes (a b : List (List UInt8)) : ∀ (Q : List (Nat × Nat)) (i j : Nat), StepsOk a.length b.length i j Q → oldsN (hunksN a b i j Q) ≤ a.length - i ∧ newsN (hunksN a b i j Q) ≤ b.length - j ∧ (hunksN a b i j Q).length ≤ Q.length ∧ ∀ h ∈ hunksN a b i j Q, 0 ≤ h.place ∧ h.place ≤ a.length ∧ h.old.length ≤ a.length ∧ h.new.length ≤ b.length
  | [], i, j, _ => ⟨Nat.zero_le _, Nat.zero_le _, Nat.le_refl _, fun h hh => (by cases hh)⟩
  | p :: Q, i, j, ⟨h1, h2, h3, h4, h5⟩ => by
    obtain ⟨k1, k2, k3, k4⟩ := hunks_sizes a b Q (p.1 + 1) (p.2 + 1) h5
    by_cases h : i < p.1 ∨ j < p.2
    · rw [hunksN_yes _ h]
      have e1 : ((a.drop i).take (p.1 - i)).length = p.1 - i := by simp; omega
      have e2 : ((b.drop j).take (p.2 - j)).length = p.2 - j := by simp; omega
      refine ⟨?_, ?_, by simpa using k3, fun x hx => ?_⟩
      · show ((a.drop i).take (p.1 - i)).length + oldsN _ ≤ _
        rw [e1]; omega
      · show ((b.drop j).take (p.2 - j)).length + newsN _ ≤ _
        rw [e2]; omega
      · rcases List.mem_cons.1 hx with rfl | hx
        · refine ⟨by show (0 : Int) ≤ (i : Int); omega, by show (i : Int) ≤ _; omega, ?_, ?_⟩
          · show ((a.drop i).take (p.1 - i)).length ≤ _
            rw [e1]; omega
          · show ((b.drop j).take (p.2 - j)).length ≤ _
            rw [e2]; omega
        · exact k4 x hx
    · rw [hunksN_no _ h]
      exact ⟨by omega, by omega, Nat.le_succ_of_le k3, k4⟩
set_option maxRecDepth 100000 in
set_option maxHeartbeats 8000000 in
theorem back_any (T : Nat → Prop) (vh : Value) (hs : List (HunkN (List UInt8))) (w : World) (hT : ∀ k, T k → k < w.heap.size) (hh : HunksC T w vh hs) (hhl : hs.length ≤ 4194304) (hpl : ∀ h ∈ hs, 0 ≤ h.place ∧ h.place ≤ 4194304 ∧ h.old.length ≤ 4194304 ∧ h.new.length ≤ 4194304) (ho : oldsN hs ≤ 8388608) (hn : newsN hs ≤ 8388608) :
    Calls Try.prog 33 #[vh] w fun e w' => ∃ v, e = .returned v ∧ HunksC (fun k => w.heap.size ≤ k ∧ k < w'.heap.size) w' v (backN 0 hs) ∧ Below w.heap.size w w' := by
  obtain ⟨j0, hj, hy0, hy1, hy2⟩ := info_parts Try.info58h
  obtain ⟨ba, bc, rfl⟩ := hh.shape
  have HT := Lib.hid hT
  have HH := Lib.hid hh
  have HPL := Lib.hid hpl
  have HR := Lib.hid (Below.refl w.heap.size w)
  obtain ⟨D, hD⟩ : ∃ D, backN 0 hs = D := ⟨_, rfl⟩
  rw [hD]
  have HD := Lib.hid hD
  clear hT hh hpl hD
  go_enter Try.func33, Try.ntmps33
  go_wp2_with fail
  go_loopw [3, 4, 9] (fun l mm i wr => ∃ (k u v : Nat) (m : Int) (css : List (List Value)) (bs : List (HunkN (List UInt8))), k ≤ hs.length ∧ i = .int .i64 k ∧ mm = .int .i64 m ∧ bs.length ≤ k ∧ Hid (m = (u : Int) - (v : Int)) ∧ u + newsN (hs.drop k) ≤ 8388608 ∧ v + oldsN (hs.drop k) ≤ 8388608 ∧ Hid (bs ++ backN m (hs.drop k) = D) ∧ Hid (OwnR hunkRel 58 3 (fun q => w.heap.size ≤ q) wr w.heap.size l css bs) ∧ Hid (Below w.heap.size w wr)) (fun _ _ i _ => hs.length - (intOf i).toNat)
  case atStart => exact ⟨0, 0, 0, 0, [], [], Nat.zero_le _, rfl, rfl, Nat.le_refl _, Lib.hid rfl, by simpa using hn, by simpa using ho, HD, Lib.hid (OwnR.nil _ _ _ _ _ _), HR⟩
  case round =>
    obtain ⟨k, u, v, m, css, bs, hk, rfl, rfl, hbk, hM, hU, hV, hE, hO, hW⟩ := hrel
    obtain ⟨hva, hvc, rfl⟩ := ownR_slice hO.out
    have hsz := hW.out.size
    by_cases hlt : k < hs.length
    · obtain ⟨g, o, rfl, hTg, _, _, hcs⟩ := hunk_at (HH.out.kept hunk_keeps (S' := T) (w' := wr) (fun q hq => ⟨hq, hW.out.block q (HT.out q hq)⟩)) (by omega)
      obtain ⟨h, hh⟩ : ∃ h, hs[k]? = some h := ⟨_, List.getElem?_eq_getElem hlt⟩
      have hd : hs.drop k = h :: hs.drop (k + 1) := drop_one hh
      obtain ⟨b1, b2, b3, b4⟩ := HPL.out h (List.mem_of_getElem? hh)
      obtain ⟨a1, c1, a2, c2, e0, e1, e2, r1, r2⟩ := hcs k h hh
      obtain ⟨pl, old, new⟩ := h
      simp only at e0 e1 e2 r1 r2 b1 b2 b3 b4
      have hE2 := hE.out
      rw [hd] at hE2 hU hV
      have hU2 : u + (new.length + newsN (hs.drop (k + 1))) ≤ 8388608 := hU
      have hV2 : v + (old.length + oldsN (hs.drop (k + 1))) ≤ 8388608 := hV
      have HU := Lib.hid hU2
      have HV := Lib.hid hV2
      have HN : Hid (bs ++ [⟨pl + m, new, old⟩] ++ backN (m + ((new.length : Int) - (old.length : Int))) (hs.drop (k + 1)) = D) := Lib.hid (by rw [List.append_assoc]; exact hE2)
      have HM : Hid (m = (u : Int) - (v : Int)) := hM
      have hm1 : -8388608 ≤ m := by have := hM.out; omega
      have hm2 : m ≤ 8388608 := by have := hM.out; omega
      have hul : u + new.length ≤ 8388608 := by omega
      have hvl : v + old.length ≤ 8388608 := by omega
      have HSA := Lib.hid r2
      have HSB := Lib.hid r1
      have hw1 : IntKind.i64.wrap (pl + m) = pl + m := IntWalk.i64_in _ (by omega)
      have HN5 := Lib.hid (new_five wr #[.int .i64 pl, .slice a1 old.length c1, .slice a2 new.length c2] 58)
      have HW0 : Hid (Below w.heap.size w (wr.alloc (.cells #[.int .i64 pl, .slice a1 old.length c1, .slice a2 new.length c2] 58))) := Lib.hid (hW.out.alloc hsz _)
      have HWK : Hid (∀ q, q < wr.heap.size → (wr.alloc (.cells #[.int .i64 pl, .slice a1 old.length c1, .slice a2 new.length c2] 58)).heap[q]? = wr.heap[q]?) := Lib.hid (fun q hq => Below.heap_alloc _ _ _ hq)
      have HWP : Hid (wr.heap.size < (wr.alloc (.cells #[.int .i64 pl, .slice a1 old.length c1, .slice a2 new.length c2] 58)).heap.size) := Lib.hid (by simp)
      clear hcs hh hd r1 r2 hE2 hU hV hU2 hV2 hE hM
      go_upto_region 6 with fail
      generalize wr.alloc (.cells #[.int .i64 pl, .slice a1 old.length c1, .slice a2 new.length c2] 58) = wp at *
      obtain ⟨pb, hpbe⟩ : ∃ pb, wr.heap.size = pb := ⟨_, rfl⟩
      have HPB := Lib.hid hpbe
      have hpb : pb < wp.heap.size := by have := HWP.out; omega
      have HF : Hid (∀ W : World, W.heap[pb]? = wp.heap[pb]? → W.cell? ⟨pb, 0, none⟩ = some (.int .i64 pl) ∧ W.cell? ⟨pb, 1, none⟩ = some (.slice a1 old.length c1) ∧ W.cell? ⟨pb, 2, none⟩ = some (.slice a2 new.length c2)) := Lib.hid (fun W hW => by
        have h := HN5.out
        rw [hpbe] at h
        exact box3 h hW)
      have HBwp := HW0
      have HCL1 : Hid (∀ W, Below wp.heap.size wp W → Calls Try.prog 49 #[.slice a2 new.length c2] W fun e w' => ∃ v', e = .returned v' ∧ OwnS w' W.heap.size v' new ∧ Below W.heap.size W w') := Lib.hid (fun W hb => clone_any T _ new W (fun q hq => by have := HT.out q hq; have := HBwp.out.size; have := hb.size; omega) (HSA.out.kept (fun q hq => ⟨hq, (hb.block q (by have := HT.out q hq; have := HBwp.out.size; omega)).trans (HWK.out q (by have := HT.out q hq; omega))⟩)) b4)
      have HCL2 : Hid (∀ W, Below wp.heap.size wp W → Calls Try.prog 49 #[.slice a1 old.length c1] W fun e w' => ∃ v', e = .returned v' ∧ OwnS w' W.heap.size v' old ∧ Below W.heap.size W w') := Lib.hid (fun W hb => clone_any T _ old W (fun q hq => by have := HT.out q hq; have := HBwp.out.size; have := hb.size; omega) (HSB.out.kept (fun q hq => ⟨hq, (hb.block q (by have := HT.out q hq; have := HBwp.out.size; omega)).trans (HWK.out q (by have := HT.out q hq; omega))⟩)) b3)
      rw [hpbe]
      clear e0 e1 e2 HN5 hpbe
      refine wp_region_held_drew (S := (fun W => W.cell? ⟨pb, 0, none⟩ = some (.int .i64 pl) ∧ W.cell? ⟨pb, 1, none⟩ = some (.slice a1 old.length c1) ∧ W.cell? ⟨pb, 2, none⟩ = some (.slice a2 new.length c2))) (by kernel_rfl) (by exact HF.out _ rfl) (fun hHeld => ?_)
      have HBd : Hid (Below wp.heap.size wp wp.drew) := Lib.hid ((Below.refl _ _).drew)
      have HPd : Hid (wp.drew.heap[pb]? = wp.heap[pb]?) := Lib.hid rfl
      generalize wp.drew = wd at *
      refine wpAnyH_take (i := 0) (oi := ⟨_, _, _, _, _, _⟩) (v := ?_) rfl (by kernel_rfl) (by kernel_rfl) (by kernel_rfl) (fun _ _ _ h => h) (Or.inl ⟨by rfl, ?_⟩) (by assumption) ?_
      rotate_left
      · intro w hSw; (try dsimp only at hSw); first | (go_simp; done) | (go_simp; with_reducible rfl)
      try simp only [Act.put, List.setIfInBounds_toArray, List.set_cons_zero, List.set_cons_succ]
      refine wpAnyH_take (i := 1) (oi := ⟨_, _, _, _, _, _⟩) (v := ?_) rfl (by kernel_rfl) (by kernel_rfl) (by kernel_rfl) (fun _ _ _ h => h) (Or.inl ⟨by rfl, ?_⟩) (by assumption) ?_
      rotate_left
      · intro w hSw; (try dsimp only at hSw); first | (go_simp; done) | (go_simp; with_reducible rfl)
      try simp only [Act.put, List.setIfInBounds_toArray, List.set_cons_zero, List.set_cons_succ]
      refine wpAnyH_take (i := 2) (oi := ⟨_, _, _, _, _, _⟩) (v := ?_) rfl (by kernel_rfl) (by kernel_rfl) (by kernel_rfl) (fun _ _ _ h => h) (Or.inl ⟨by rfl, ?_⟩) (by assumption) ?_
      rotate_left
      · intro w hSw; (try dsimp only at hSw); first | (go_simp; done) | (go_simp; with_reducible rfl)
      try simp only [Act.put, List.setIfInBounds_toArray, List.set_cons_zero, List.set_cons_succ]
      refine wpAnyH_take (i := 3) (oi := ⟨_, _, _, _, _, _⟩) (v := ?_) rfl (by kernel_rfl) (by kernel_rfl) (by kernel_rfl) (fun _ _ _ h => h) (Or.inl ⟨by rfl, ?_⟩) (by assumption) ?_
      rotate_left
      · intro w hSw; (try dsimp only at hSw); first | (go_simp; done) | (go_simp; with_reducible rfl)
      try simp only [Act.put, List.setIfInBounds_toArray, List.set_cons_zero, List.set_cons_succ]
      refine wpAnyH_take (i := 4) (oi := ⟨_, _, _, _, _, _⟩) (v := ?_) rfl (by kernel_rfl) (by kernel_rfl) (by kernel_rfl) (fun _ _ _ h => h) (Or.inl ⟨by rfl, ?_⟩) (by assumption) ?_
      rotate_left
      · intro w hSw; (try dsimp only at hSw); first | (go_simp; done) | (go_simp; with_reducible rfl)
      try simp only [Act.put, List.setIfInBounds_toArray, List.set_cons_zero, List.set_cons_succ]
      refine wpAnyH_take (i := 5) (oi := ⟨_, _, _, _, _, _⟩) (v := ?_) rfl (by kernel_rfl) (by kernel_rfl) (by kernel_rfl) (fun _ _ _ h => h) (Or.inl ⟨by rfl, ?_⟩) (by assumption) ?_
      rotate_left
      · intro w hSw; (try dsimp only at hSw); first | (go_simp; done) | (go_simp; with_reducible rfl)
      try simp only [Act.put, List.setIfInBounds_toArray, List.set_cons_zero, List.set_cons_succ]
      refine wpAnyH_take (i := 6) (oi := ⟨_, _, _, _, _, _⟩) (v := ?_) rfl (by kernel_rfl) (by kernel_rfl) (by kernel_rfl) (fun _ _ _ h => h) (Or.inl ⟨by rfl, ?_⟩) (by assumption) ?_
      rotate_left
      · intro w hSw; (try dsimp only at hSw); first | (go_simp; done) | (go_simp; with_reducible rfl)
      try simp only [Act.put, List.setIfInBounds_toArray, List.set_cons_zero, List.set_cons_succ]
      refine wpAnyH_take (i := 8) (oi := ⟨_, _, _, _, _, _⟩) (v := ?_) rfl (by kernel_rfl) (by kernel_rfl) (by kernel_rfl) (fun _ _ _ h => h) (Or.inl ⟨by rfl, ?_⟩) (by assumption) ?_
      rotate_left
      · intro w hSw; (try dsimp only at hSw); first | (go_simp; done) | (go_simp; with_reducible rfl)
      try simp only [Act.put, List.setIfInBounds_toArray, List.set_cons_zero, List.set_cons_succ]
      refine wpAnyH_take (i := 9) (oi := ⟨_, _, _, _, _, _⟩) (v := ?_) rfl (by kernel_rfl) (by kernel_rfl) (by kernel_rfl) (fun _ _ _ h => h) (Or.inl ⟨by rfl, ?_⟩) (by assumption) ?_
      rotate_left
      · intro w hSw; (try dsimp only at hSw); first | (go_simp; done) | (go_simp; with_reducible rfl)
      try simp only [Act.put, List.setIfInBounds_toArray, List.set_cons_zero, List.set_cons_succ]
      refine wpAnyH_ready (rs := [7]) (by kernel_rfl) (by simp) ?_
      refine AllReadyH.cons (o := ⟨_, _, _, _, _, _⟩) rfl (fun K hK => ?_) AllReadyH.nil
      go_simp
      refine (HCL1.out wd HBd.out).mono ?_
      rintro e w5 ⟨v5, rfl, hO5, hb5⟩
      obtain ⟨sa5, sc5, rfl⟩ := ownS_slice hO5
      have B5 : Hid (Below wp.heap.size wp w5) := Lib.hid (HBd.out.trans (hb5.mono HBd.out.size))
      have P5 : Hid (w5.heap[pb]? = wp.heap[pb]?) := Lib.hid (B5.out.block pb hpb)
      have O5 := Lib.hid hO5
      have Z5 := Lib.hid hb5.size
      clear hO5 hb5 HPd
      try go_wp2_with fail
      refine hK.out _ _ (by exact HF.out _ (Hid.out (by assumption))) (fun hHeld => ?_)
      clear hK K
      try simp only [Act.put, List.setIfInBounds_toArray, List.set_cons_zero, List.set_cons_succ]
      refine wpAnyH_ready (rs := [10]) (by kernel_rfl) (by simp) ?_
      refine AllReadyH.cons (o := ⟨_, _, _, _, _, _⟩) rfl (fun K hK => ?_) AllReadyH.nil
      go_simp
      refine (HCL2.out w5 B5.out).mono ?_
      rintro e w6 ⟨v6, rfl, hO6, hb6⟩
      obtain ⟨sa6, sc6, rfl⟩ := ownS_slice hO6
      have B6 : Hid (Below wp.heap.size wp w6) := Lib.hid (B5.out.trans (hb6.mono B5.out.size))
      have P6 : Hid (w6.heap[pb]? = wp.heap[pb]?) := Lib.hid (B6.out.block pb hpb)
      have O6 := Lib.hid (ownS_c hO6)
      have O5b := Lib.hid ((ownS_c O5.out).kept (S' := fun q => wp.heap.size ≤ q ∧ q < w5.heap.size) (w' := w6) (fun q hq => ⟨⟨by have := HBd.out.size; omega, hq.2⟩, hb6.block q hq.2⟩))
      have Z6 := Lib.hid hb6.size
      clear hO6 hb6 P5 O5
      try go_wp2_with fail
      refine hK.out _ _ (by exact HF.out _ (Hid.out (by assumption))) (fun hHeld => ?_)
      clear hK K
      try simp only [Act.put, List.setIfInBounds_toArray, List.set_cons_zero, List.set_cons_succ]
      refine wpAnyH_take (i := 11) (oi := ⟨_, _, _, _, _, _⟩) (v := ?_) rfl (by kernel_rfl) (by kernel_rfl) (by kernel_rfl) (fun _ _ _ h => h) (Or.inl ⟨by rfl, ?_⟩) (by assumption) ?_
      rotate_left
      · intro w hSw; (try dsimp only at hSw); first | (go_simp; done) | (go_simp; with_reducible rfl)
      try simp only [Act.put, List.setIfInBounds_toArray, List.set_cons_zero, List.set_cons_succ]
      refine wpAnyH_ready (rs := [12]) (by kernel_rfl) (by simp) ?_
      refine AllReadyH.cons (o := ⟨_, _, _, _, _, _⟩) rfl (fun K hK => ?_) AllReadyH.nil
      go_simp
      refine any_step (fun w7 hN => ?_)
      have B7 : Hid (Below wp.heap.size wp w7) := Lib.hid (by rw [hN]; exact Below.alloc B6.out B6.out.size _)
      have P7 : Hid (w7.heap[pb]? = wp.heap[pb]?) := Lib.hid (B7.out.block pb hpb)
      have SRC7 : Hid (Src Try.prog 3 38 (.slice (some ⟨w6.heap.size, 0, none⟩) 1 1) 1 [.int .i64 (pl + m), .slice sa5 new.length sc5, .slice sa6 old.length sc6] w7) := Lib.hid (by rw [hN]; exact srcH_one w6 _ _ _ _ _ _ _)
      have O7 : Hid (hunkRel (fun q => wp.heap.size ≤ q ∧ q < w7.heap.size) w7 ⟨pl + m, new, old⟩ [.int .i64 (pl + m), .slice sa5 new.length sc5, .slice sa6 old.length sc6]) := Lib.hid ⟨_, _, rfl, O5b.out.kept (fun q hq => ⟨⟨hq.1, by rw [hN]; simp; have := Z6.out; omega⟩, by rw [hN]; exact Below.heap_alloc _ _ _ (by have := Z6.out; omega)⟩), O6.out.kept (fun q hq => ⟨⟨by have := B5.out.size; omega, by rw [hN]; simp; omega⟩, by rw [hN]; exact Below.heap_alloc _ _ _ hq.2⟩)⟩
      have OW7 : Hid (w7.ownsRow w.heap.size 58 3 (.slice hva bs.length hvc) bs.length css.flatten) := Lib.hid (own_below hO.out.own (fun q _ hq => (B7.out.block q (by have := HWP.out; omega)).trans (HWK.out q hq)))
      clear hN P6 O5b O6
      try go_wp2_with fail
      refine hK.out _ _ (by exact HF.out _ (Hid.out (by assumption))) (fun hHeld => ?_)
      clear hK K
      try simp only [Act.put, List.setIfInBounds_toArray, List.set_cons_zero, List.set_cons_succ]
      refine wpAnyH_ready (rs := [13]) (by kernel_rfl) (by simp) ?_
      refine AllReadyH.cons (o := ⟨_, _, _, _, _, _⟩) rfl (fun K hK => ?_) AllReadyH.nil
      refine step_own_src _ rfl _ _ 38 38 (by rfl) w.heap.size 58 j0 (.agg #[.int .i64 0, .slice none 0 0, .slice none 0 0]) 3 56 Try.underlying38 hj hy0 hy1 hy2 rfl (by decide) _ _ _ (by rfl) OW7.out _ _ _ (by rfl) SRC7.out (by unfold maxLen; omega) (by omega) (by have := B7.out.size; have := HWP.out; omega) ?_
      intro v8 w8 hown8 hg8
      have P8 : Hid (w8.heap[pb]? = wp.heap[pb]?) := Lib.hid ((hg8.gb.block pb (by have := B7.out.size; omega) (fun e => by have := (World.ownsRow.lt hO.out.own _ e.symm).2; have := HPB.out; omega)).trans P7.out)
      have B8 : Hid (Below w.heap.size w w8) := Lib.hid ((HW0.out.trans (B7.out.mono HW0.out.size)).grown hg8.gb (by have := B7.out.size; have := HWP.out; omega) (fun q hq => (World.ownsRow.lt OW7.out q hq).1))
      have O8 := Lib.hid (hO.out.push hunk_keeps (w2 := w7) (fun q hq _ => (B7.out.block q (by have := HWP.out; omega)).trans (HWK.out q hq)) (by have := B7.out.size; have := HWP.out; omega) hg8 rfl (fun u hu => by simp at hu; rcases hu with rfl | rfl | rfl <;> rfl) hown8 (hunk_keeps _ _ _ _ _ _ O7.out (fun q hq => ⟨⟨by have := HWP.out; omega, hq.2, fun e => by have := (World.ownsRow.lt hO.out.own q e).2; have := HWP.out; omega⟩, rfl⟩)))
      clear hown8 hg8 P7 SRC7 O7 OW7
      refine hK.out _ _ (by exact HF.out _ (Hid.out (by assumption))) (fun hHeld => ?_)
      clear hK K
      try simp only [Act.put, List.setIfInBounds_toArray, List.set_cons_zero, List.set_cons_succ]
      refine wpAnyH_take (i := 14) (oi := ⟨_, _, _, _, _, _⟩) (v := ?_) rfl (by kernel_rfl) (by kernel_rfl) (by kernel_rfl) (fun _ _ _ h => h) (Or.inl ⟨by rfl, ?_⟩) (by assumption) ?_
      rotate_left
      · intro w hSw; (try dsimp only at hSw); first | (go_simp; done) | (go_simp; with_reducible rfl)
      try simp only [Act.put, List.setIfInBounds_toArray, List.set_cons_zero, List.set_cons_succ]
      refine wpAnyH_done (by kernel_rfl) ?_ _
      obtain ⟨hz0, hz1, hz2⟩ := HF.out w8 P8.out
      clear hHeld HF
      go_wp2_with fail
      go_roundw
      case rel => exact ⟨k + 1, u + new.length, v + old.length, m + ((new.length : Int) - (old.length : Int)), _, bs ++ [⟨pl + m, new, old⟩], by omega, by go_num, rfl, by simp; omega, Lib.hid (by have := HM.out; push_cast; omega), by rw [Nat.add_assoc]; exact HU.out, by rw [Nat.add_assoc]; exact HV.out, HN, O8, B8⟩
      case measure => simp [intOf]; omega
    · have HQ : Hid (bs = D) := Lib.hid (by
        have := hE.out
        rw [List.drop_eq_nil_of_le (show hs.length ≤ k by omega)] at this
        simpa [backN] using this)
      go_wp2_with fail
      go_ret
      exact ⟨_, rfl, by rw [← HQ.out]; exact (hO.out.rows hunk_keeps).kept hunk_keeps (fun q hq => ⟨⟨by rcases hq.1 with h | h <;> exact h, hq.2⟩, rfl⟩), hW.out⟩
end Go.Proofs.Ytfiogjdjcocbnaa
