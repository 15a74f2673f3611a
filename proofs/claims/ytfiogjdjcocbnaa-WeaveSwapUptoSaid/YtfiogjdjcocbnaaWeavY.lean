/- The walk of Swap. -/
import Derived.Test.YtfiogjdjcocbnaaWeavX
namespace Go.Proofs.Ytfiogjdjcocbnaa
open Go.RowKit
attribute [local go_sem ↓] Go.wp_at_zero Go.wp_at_succ

set_option maxRecDepth 100000 in
set_option maxHeartbeats 8000000 in
theorem swap_any (T : Nat → Prop) (vh : Value) (hs : List (PartN (List UInt8))) (w : World) (hT : ∀ k, T k → k < w.heap.size) (hh : PartsC T w vh hs) (hhl : hs.length ≤ 4194304) (hx : ∀ p ∈ hs, p.base.length ≤ 4194304 ∧ p.ours.length ≤ 4194304 ∧ p.theirs.length ≤ 4194304) :
    Calls Try.prog 43 #[vh] w fun e w' => ∃ v, e = .returned v ∧ PartsC (fun k => k < w'.heap.size) w' v (hs.map swapN) ∧ Below w.heap.size w w' := by
  obtain ⟨j0, hj, hy0, hy1, hy2⟩ := info_parts Try.info73p
  obtain ⟨ba, bc, rfl⟩ := hh.shape
  have HT := Lib.hid hT
  have HH := Lib.hid hh
  have HX := Lib.hid hx
  have HR := Lib.hid (Below.refl w.heap.size w)
  clear hT hh hx
  go_enter Try.func43, Try.ntmps43
  go_wp2_with fail
  go_loopw [3, 9] (fun l i wr => ∃ (k : Nat) (css : List (List Value)) (os : List (PartN (List UInt8))), k ≤ hs.length ∧ i = .int .i64 k ∧ Hid (os.length = k) ∧ Hid (os = (hs.take k).map swapN) ∧ Hid (OwnR partRel 73 4 (fun _ => True) wr w.heap.size l css os) ∧ Hid (Below w.heap.size w wr)) (fun _ i _ => hs.length - (intOf i).toNat)
  case atStart => exact ⟨0, [], [], Nat.zero_le _, rfl, Lib.hid rfl, Lib.hid rfl, Lib.hid (OwnR.nil _ _ _ _ _ _), HR⟩
  case round =>
    obtain ⟨k, css, os, hk, rfl, hok, hOS, hO, hW⟩ := hrel
    obtain ⟨hva, hvc, rfl⟩ := ownR_slice hO.out
    have hsz := hW.out.size
    by_cases hlt : k < hs.length
    · obtain ⟨g, o, rfl, hTg, _, _, hcs⟩ := part_at (HH.out.kept part_keeps (S' := T) (w' := wr) (fun q hq => ⟨hq, hW.out.block q (HT.out q hq)⟩)) (by omega)
      obtain ⟨h, hh⟩ : ∃ h, hs[k]? = some h := ⟨_, List.getElem?_eq_getElem hlt⟩
      have hts : hs.take (k + 1) = hs.take k ++ [h] := by
        rw [List.take_succ_eq_append_getElem hlt]
        rw [List.getElem?_eq_getElem hlt] at hh
        injection hh with hh; rw [hh]
      obtain ⟨x1, x2, x3⟩ := HX.out h (List.mem_of_getElem? hh)
      obtain ⟨a1, c1, a2, c2, a3, c3, e0, e1, e2, e3, r1, r2, r3⟩ := hcs k h hh
      obtain ⟨kd, lb, lo, lt⟩ := h
      simp only at e0 e1 e2 e3 r1 r2 r3 x1 x2 x3
      have HTS : Hid ((hs.take (k + 1)).map swapN = os ++ [swapN ⟨kd, lb, lo, lt⟩]) := Lib.hid (by rw [hts, List.map_append, ← hOS.out]; rfl)
      have hkl : os.length ≤ 4194304 := by have := hok.out; omega
      have HSR := Lib.hid (fun (W : World) (hb : Below wr.heap.size wr W) => And.intro (r1.kept (S' := T) (w' := W) (fun q hq => ⟨hq, hb.block q (Nat.lt_of_lt_of_le (HT.out q hq) hsz)⟩)) (And.intro (r2.kept (S' := T) (w' := W) (fun q hq => ⟨hq, hb.block q (Nat.lt_of_lt_of_le (HT.out q hq) hsz)⟩)) (r3.kept (S' := T) (w' := W) (fun q hq => ⟨hq, hb.block q (Nat.lt_of_lt_of_le (HT.out q hq) hsz)⟩))))
      have HBX := Lib.hid (new_five wr #[.int .i64 kd, .slice a1 lb.length c1, .slice a2 lo.length c2, .slice a3 lt.length c3] 73)
      have B0 : Hid (Below wr.heap.size wr (wr.alloc (.cells #[.int .i64 kd, .slice a1 lb.length c1, .slice a2 lo.length c2, .slice a3 lt.length c3] 73))) := Lib.hid ((Below.refl _ _).alloc (Nat.le_refl _) _)
      have hlt2 : wr.heap.size < (wr.alloc (.cells #[.int .i64 kd, .slice a1 lb.length c1, .slice a2 lo.length c2, .slice a3 lt.length c3] 73)).heap.size := by simp
      clear hcs hh hts r1 r2 r3
      go_upto_region 5 with fail
      clear e0 e1 e2 e3
      generalize wr.alloc (.cells #[.int .i64 kd, .slice a1 lb.length c1, .slice a2 lo.length c2, .slice a3 lt.length c3] 73) = wp at *
      obtain ⟨pb, hpb⟩ : ∃ pb, wr.heap.size = pb := ⟨_, rfl⟩
      have HPB := Lib.hid hpb
      rw [hpb] at HBX hlt2 ⊢
      have HF : Hid (∀ W : World, W.heap[pb]? = wp.heap[pb]? → W.cell? ⟨pb, 0, none⟩ = some (.int .i64 kd) ∧ W.cell? ⟨pb, 1, none⟩ = some (.slice a1 lb.length c1) ∧ W.cell? ⟨pb, 2, none⟩ = some (.slice a2 lo.length c2) ∧ W.cell? ⟨pb, 3, none⟩ = some (.slice a3 lt.length c3)) := Lib.hid (fun W hW => box4 HBX.out hW)
      have hwrp : wr.heap.size ≤ wp.heap.size := B0.out.size
      clear hpb HBX
      refine wp_region_held_drew (S := (fun W => W.cell? ⟨pb, 0, none⟩ = some (.int .i64 kd) ∧ W.cell? ⟨pb, 1, none⟩ = some (.slice a1 lb.length c1) ∧ W.cell? ⟨pb, 2, none⟩ = some (.slice a2 lo.length c2) ∧ W.cell? ⟨pb, 3, none⟩ = some (.slice a3 lt.length c3))) (by kernel_rfl) (by exact HF.out _ rfl) (fun hHeld => ?_)
      have PD : Hid (wp.drew.heap[pb]? = wp.heap[pb]?) := Lib.hid rfl
      have BD : Hid (Below wp.heap.size wp wp.drew) := Lib.hid (drewn _ wp 1)
      generalize wp.drew = wd at *
      refine wpAnyH_take (i := 0) (oi := ⟨_, _, _, _, _, _⟩) (v := ?_) rfl (by kernel_rfl) (by kernel_rfl) (by kernel_rfl) (fun _ _ _ h => h) (Or.inl ⟨by rfl, ?_⟩) (by assumption) ?_
      rotate_left
      · intro w hSw; (try dsimp only at hSw); first | (go_simp; done) | (go_simp; with_reducible rfl)
      try simp only [Act.put, List.setIfInBounds_toArray, List.set_cons_zero, List.set_cons_succ]
      refine wpAnyH_take (i := 1) (oi := ⟨_, _, _, _, _, _⟩) (v := ?_) rfl (by kernel_rfl) (by kernel_rfl) (by kernel_rfl) (fun _ _ _ h => h) (Or.inl ⟨by rfl, ?_⟩) (by assumption) ?_
      rotate_left
      · intro w hSw; (try dsimp only at hSw); first | (go_simp; done) | (go_simp; with_reducible rfl)
      try simp only [Act.put, List.setIfInBounds_toArray, List.set_cons_zero, List.set_cons_succ]
      refine wpAnyH_take (i := 2) (oi := ⟨_, _, _, _, _, _⟩) (v := ?_) rfl (by kernel_rfl) (by kernel_rfl) (by kernel_rfl) (fun _ _ _ h => h) (Or.inl ⟨by rfl, ?_⟩) (by assumption) ?_
      rotate_left
      · intro w hSw; (try dsimp only at hSw); first | (go_simp; done) | (go_simp; with_reducible rfl)
      try simp only [Act.put, List.setIfInBounds_toArray, List.set_cons_zero, List.set_cons_succ]
      refine wpAnyH_take (i := 3) (oi := ⟨_, _, _, _, _, _⟩) (v := ?_) rfl (by kernel_rfl) (by kernel_rfl) (by kernel_rfl) (fun _ _ _ h => h) (Or.inl ⟨by rfl, ?_⟩) (by assumption) ?_
      rotate_left
      · intro w hSw; (try dsimp only at hSw); first | (go_simp; done) | (go_simp; with_reducible rfl)
      try simp only [Act.put, List.setIfInBounds_toArray, List.set_cons_zero, List.set_cons_succ]
      refine wpAnyH_take (i := 5) (oi := ⟨_, _, _, _, _, _⟩) (v := ?_) rfl (by kernel_rfl) (by kernel_rfl) (by kernel_rfl) (fun _ _ _ h => h) (Or.inl ⟨by rfl, ?_⟩) (by assumption) ?_
      rotate_left
      · intro w hSw; (try dsimp only at hSw); first | (go_simp; done) | (go_simp; with_reducible rfl)
      try simp only [Act.put, List.setIfInBounds_toArray, List.set_cons_zero, List.set_cons_succ]
      refine wpAnyH_take (i := 6) (oi := ⟨_, _, _, _, _, _⟩) (v := ?_) rfl (by kernel_rfl) (by kernel_rfl) (by kernel_rfl) (fun _ _ _ h => h) (Or.inl ⟨by rfl, ?_⟩) (by assumption) ?_
      rotate_left
      · intro w hSw; (try dsimp only at hSw); first | (go_simp; done) | (go_simp; with_reducible rfl)
      try simp only [Act.put, List.setIfInBounds_toArray, List.set_cons_zero, List.set_cons_succ]
      refine wpAnyH_take (i := 8) (oi := ⟨_, _, _, _, _, _⟩) (v := ?_) rfl (by kernel_rfl) (by kernel_rfl) (by kernel_rfl) (fun _ _ _ h => h) (Or.inl ⟨by rfl, ?_⟩) (by assumption) ?_
      rotate_left
      · intro w hSw; (try dsimp only at hSw); first | (go_simp; done) | (go_simp; with_reducible rfl)
      try simp only [Act.put, List.setIfInBounds_toArray, List.set_cons_zero, List.set_cons_succ]
      refine wpAnyH_take (i := 9) (oi := ⟨_, _, _, _, _, _⟩) (v := ?_) rfl (by kernel_rfl) (by kernel_rfl) (by kernel_rfl) (fun _ _ _ h => h) (Or.inl ⟨by rfl, ?_⟩) (by assumption) ?_
      rotate_left
      · intro w hSw; (try dsimp only at hSw); first | (go_simp; done) | (go_simp; with_reducible rfl)
      try simp only [Act.put, List.setIfInBounds_toArray, List.set_cons_zero, List.set_cons_succ]
      refine wpAnyH_ready (rs := [4, 12]) (by kernel_rfl) (by simp) ?_
      refine AllReadyH.cons (o := ⟨_, _, _, _, _, _⟩) rfl (fun K hK => ?_) (AllReadyH.cons (o := ⟨_, _, _, _, _, _⟩) rfl (fun K hK => ?_) AllReadyH.nil)
      · go_simp
        refine (clone_any T _ lb wd (fun q hq => by have := HT.out q hq; have := BD.out.size; omega) (HSR.out _ (B0.out.trans (BD.out.mono (by omega)))).1 (by omega)).mono ?_
        rintro e wc1 ⟨u1, rfl, ho, hb⟩
        have hsb := hb.size
        have hsw := BD.out.size
        have C0n1 := Lib.hid ((ownS_c ho).kept (S' := fun q => wp.heap.size ≤ q ∧ q < wc1.heap.size) (w' := wc1) (fun q hq => ⟨by omega, rfl⟩))
        have P1p : Hid (wc1.heap[pb]? = wp.heap[pb]?) := Lib.hid ((hb.block pb (by omega)).trans PD.out)
        have W1p : Hid (Below wp.heap.size wp wc1) := Lib.hid (BD.out.trans (hb.mono (by omega)))
        obtain ⟨p1, s1, rfl⟩ := ownS_slice ho
        clear ho hb hsb hsw PD BD  
        try go_wp2_with fail
        refine hK.out _ _ (by exact HF.out _ (Hid.out (by assumption))) (fun hHeld => ?_)
        clear hK K
        try simp only [Act.put, List.setIfInBounds_toArray, List.set_cons_zero, List.set_cons_succ]
        refine wpAnyH_ready (rs := [7, 12]) (by kernel_rfl) (by simp) ?_
        refine AllReadyH.cons (o := ⟨_, _, _, _, _, _⟩) rfl (fun K hK => ?_) (AllReadyH.cons (o := ⟨_, _, _, _, _, _⟩) rfl (fun K hK => ?_) AllReadyH.nil)
        · go_simp
          refine (clone_any T _ lt wc1 (fun q hq => by have := HT.out q hq; have := W1p.out.size; omega) (HSR.out _ (B0.out.trans (W1p.out.mono (by omega)))).2.2 (by omega)).mono ?_
          rintro e wc2 ⟨u2, rfl, ho, hb⟩
          have hsb := hb.size
          have hsw := W1p.out.size
          have C0n2 := Lib.hid (C0n1.out.kept (S' := fun q => wp.heap.size ≤ q ∧ q < wc2.heap.size) (w' := wc2) (fun q hq => ⟨by omega, hb.block q (by omega)⟩))
          have C1n2 := Lib.hid ((ownS_c ho).kept (S' := fun q => wp.heap.size ≤ q ∧ q < wc2.heap.size) (w' := wc2) (fun q hq => ⟨by omega, rfl⟩))
          have P2p : Hid (wc2.heap[pb]? = wp.heap[pb]?) := Lib.hid ((hb.block pb (by omega)).trans P1p.out)
          have W2p : Hid (Below wp.heap.size wp wc2) := Lib.hid (W1p.out.trans (hb.mono (by omega)))
          obtain ⟨p2, s2, rfl⟩ := ownS_slice ho
          clear ho hb hsb hsw P1p W1p C0n1 
          try go_wp2_with fail
          refine hK.out _ _ (by exact HF.out _ (Hid.out (by assumption))) (fun hHeld => ?_)
          clear hK K
          try simp only [Act.put, List.setIfInBounds_toArray, List.set_cons_zero, List.set_cons_succ]
          refine wpAnyH_ready (rs := [10, 12]) (by kernel_rfl) (by simp) ?_
          refine AllReadyH.cons (o := ⟨_, _, _, _, _, _⟩) rfl (fun K hK => ?_) (AllReadyH.cons (o := ⟨_, _, _, _, _, _⟩) rfl (fun K hK => ?_) AllReadyH.nil)
          · go_simp
            refine (clone_any T _ lo wc2 (fun q hq => by have := HT.out q hq; have := W2p.out.size; omega) (HSR.out _ (B0.out.trans (W2p.out.mono (by omega)))).2.1 (by omega)).mono ?_
            rintro e wc3 ⟨u3, rfl, ho, hb⟩
            have hsb := hb.size
            have hsw := W2p.out.size
            have C0n3 := Lib.hid (C0n2.out.kept (S' := fun q => wp.heap.size ≤ q ∧ q < wc3.heap.size) (w' := wc3) (fun q hq => ⟨by omega, hb.block q (by omega)⟩))
            have C1n3 := Lib.hid (C1n2.out.kept (S' := fun q => wp.heap.size ≤ q ∧ q < wc3.heap.size) (w' := wc3) (fun q hq => ⟨by omega, hb.block q (by omega)⟩))
            have C2n3 := Lib.hid ((ownS_c ho).kept (S' := fun q => wp.heap.size ≤ q ∧ q < wc3.heap.size) (w' := wc3) (fun q hq => ⟨by omega, rfl⟩))
            have P3p : Hid (wc3.heap[pb]? = wp.heap[pb]?) := Lib.hid ((hb.block pb (by omega)).trans P2p.out)
            have W3p : Hid (Below wp.heap.size wp wc3) := Lib.hid (W2p.out.trans (hb.mono (by omega)))
            obtain ⟨p3, s3, rfl⟩ := ownS_slice ho
            clear ho hb hsb hsw P2p W2p C0n2 C1n2 
            try go_wp2_with fail
            refine hK.out _ _ (by exact HF.out _ (Hid.out (by assumption))) (fun hHeld => ?_)
            clear hK K
            try simp only [Act.put, List.setIfInBounds_toArray, List.set_cons_zero, List.set_cons_succ]
            refine wpAnyH_take (i := 11) (oi := ⟨_, _, _, _, _, _⟩) (v := ?_) rfl (by kernel_rfl) (by kernel_rfl) (by kernel_rfl) (fun _ _ _ h => h) (Or.inl ⟨by rfl, ?_⟩) (by assumption) ?_
            rotate_left
            · intro w hSw; (try dsimp only at hSw); first | (go_simp; done) | (go_simp; with_reducible rfl)
            try simp only [Act.put, List.setIfInBounds_toArray, List.set_cons_zero, List.set_cons_succ]
            refine wpAnyH_ready (rs := [12]) (by kernel_rfl) (by simp) ?_
            refine AllReadyH.cons (o := ⟨_, _, _, _, _, _⟩) rfl (fun K hK => ?_) AllReadyH.nil
            go_simp
            refine any_step (fun wc4 hN => ?_)
            have hsw := W3p.out.size
            have hsn : wc4.heap.size = wc3.heap.size + 1 := by rw [hN]; simp
            have C0n4 := Lib.hid (C0n3.out.kept (S' := fun q => wp.heap.size ≤ q ∧ q < wc4.heap.size ∧ q ≠ wc3.heap.size) (w' := wc4) (fun q hq => ⟨by omega, by rw [hN]; exact Below.heap_alloc _ _ _ hq.2⟩))
            have C1n4 := Lib.hid (C1n3.out.kept (S' := fun q => wp.heap.size ≤ q ∧ q < wc4.heap.size ∧ q ≠ wc3.heap.size) (w' := wc4) (fun q hq => ⟨by omega, by rw [hN]; exact Below.heap_alloc _ _ _ hq.2⟩))
            have C2n4 := Lib.hid (C2n3.out.kept (S' := fun q => wp.heap.size ≤ q ∧ q < wc4.heap.size ∧ q ≠ wc3.heap.size) (w' := wc4) (fun q hq => ⟨by omega, by rw [hN]; exact Below.heap_alloc _ _ _ hq.2⟩))
            have P4p : Hid (wc4.heap[pb]? = wp.heap[pb]?) := Lib.hid (by rw [hN]; exact (Below.heap_alloc _ _ _ (by omega)).trans P3p.out)
            have W4p : Hid (Below wp.heap.size wp wc4) := Lib.hid (by rw [hN]; exact W3p.out.alloc W3p.out.size _)
            have X4p : Hid (wc4.heap[wc3.heap.size]? = some (.cells #[.int .i64 0, .slice none 0 0, .slice none 0 0, .slice none 0 0] 73 (0, 0)) ∧ wp.heap.size ≤ wc3.heap.size ∧ wc3.heap.size < wc4.heap.size) := Lib.hid ⟨by rw [hN]; exact new_five _ _ _, by omega, by omega⟩
            obtain ⟨qb, hqb⟩ : ∃ qb, wc3.heap.size = qb := ⟨_, rfl⟩
            rw [hqb] at X4p C0n4 C1n4 C2n4 ⊢
            clear hN hqb hsw hsn P3p W3p C0n3 C1n3 C2n3
            try go_wp2_with fail
            refine hK.out _ _ (by exact HF.out _ (Hid.out (by assumption))) (fun hHeld => ?_)
            clear hK K
            try simp only [Act.put, List.setIfInBounds_toArray, List.set_cons_zero, List.set_cons_succ]
            refine wpAnyH_ready (rs := [13]) (by kernel_rfl) (by simp) ?_
            refine AllReadyH.cons (o := ⟨_, _, _, _, _, _⟩) rfl (fun K hK => ?_) AllReadyH.nil
            skip
            have hFF := fun q => frozen_box X4p.out.1 q
            obtain ⟨b0, b1, b2, b3⟩ := box4 (w' := wc4) X4p.out.1 rfl
            have z0 := hFF 0
            have z1 := hFF 1
            have z2 := hFF 2
            have z3 := hFF 3
            have PK : (set4 wc4 qb (.int .i64 kd) (.slice p1 lb.length s1) (.slice p2 lt.length s2) (.slice p3 lo.length s3)).heap[pb]? = wp.heap[pb]? := ((set4_spares wc4 qb _ _ _ _).block pb (by have := W4p.out.size; omega) (fun e => by have := X4p.out.2.1; omega)).trans P4p.out
            unfold set4 at PK
            have HPK := Lib.hid PK
            clear PK
            go_simp
            try go_wp2_with fail
            refine hK.out _ _ (by exact HF.out _ HPK.out) (fun hHeld => ?_)
            clear hK K
            try simp only [Act.put, List.setIfInBounds_toArray, List.set_cons_zero, List.set_cons_succ]
            refine wpAnyH_done (by kernel_rfl) ?_ _
            clear hHeld
            have P5 : Hid ((set4 wc4 qb (.int .i64 kd) (.slice p1 lb.length s1) (.slice p2 lt.length s2) (.slice p3 lo.length s3)).heap[pb]? = wp.heap[pb]?) := Lib.hid (((set4_spares wc4 qb _ _ _ _).block pb (by have := W4p.out.size; omega) (fun e => by have := X4p.out.2.1; omega)).trans P4p.out)
            have S5 := set4_spares wc4 qb (.int .i64 kd) (.slice p1 lb.length s1) (.slice p2 lt.length s2) (.slice p3 lo.length s3)
            have B5 : Hid (Below wp.heap.size wp (set4 wc4 qb (.int .i64 kd) (.slice p1 lb.length s1) (.slice p2 lt.length s2) (.slice p3 lo.length s3))) := Lib.hid (W4p.out.trans (S5.below (fun q e => by have := X4p.out.2.1; omega) W4p.out.size))
            have D1 := Lib.hid (C0n4.out.kept (S' := fun q => wp.heap.size ≤ q ∧ q < wc4.heap.size ∧ q ≠ qb) (w' := set4 wc4 qb (.int .i64 kd) (.slice p1 lb.length s1) (.slice p2 lt.length s2) (.slice p3 lo.length s3)) (fun q hq => ⟨hq, S5.block q hq.2.1 hq.2.2⟩))
            have D2 := Lib.hid (C1n4.out.kept (S' := fun q => wp.heap.size ≤ q ∧ q < wc4.heap.size ∧ q ≠ qb) (w' := set4 wc4 qb (.int .i64 kd) (.slice p1 lb.length s1) (.slice p2 lt.length s2) (.slice p3 lo.length s3)) (fun q hq => ⟨hq, S5.block q hq.2.1 hq.2.2⟩))
            have D3 := Lib.hid (C2n4.out.kept (S' := fun q => wp.heap.size ≤ q ∧ q < wc4.heap.size ∧ q ≠ qb) (w' := set4 wc4 qb (.int .i64 kd) (.slice p1 lb.length s1) (.slice p2 lt.length s2) (.slice p3 lo.length s3)) (fun q hq => ⟨hq, S5.block q hq.2.1 hq.2.2⟩))
            obtain ⟨y0, y1, y2, y3⟩ := set4_cells b0 b1 b2 b3 (.int .i64 kd) (.slice p1 lb.length s1) (.slice p2 lt.length s2) (.slice p3 lo.length s3)
            have x0 : (set4 wc4 qb (.int .i64 kd) (.slice p1 lb.length s1) (.slice p2 lt.length s2) (.slice p3 lo.length s3)).frozen? ⟨qb, 0, none⟩ = false := by simp [set4, z0]
            have hq5 : qb < (set4 wc4 qb (.int .i64 kd) (.slice p1 lb.length s1) (.slice p2 lt.length s2) (.slice p3 lo.length s3)).heap.size := Nat.lt_of_lt_of_le X4p.out.2.2 S5.size
            have hw5s := S5.size
            have HQP : Hid (wp.heap.size ≤ qb) := Lib.hid X4p.out.2.1
            obtain ⟨w5, hw5⟩ : ∃ W5, set4 wc4 qb (.int .i64 kd) (.slice p1 lb.length s1) (.slice p2 lt.length s2) (.slice p3 lo.length s3) = W5 := ⟨_, rfl⟩
            rw [hw5] at P5 B5 D1 D2 D3 y0 y1 y2 y3 x0 hq5 hw5s
            unfold set4 at hw5
            rw [hw5]
            have hnq : ¬ (qb = pb) := by have := HQP.out; omega
            have hnq2 : ¬ (pb = qb) := by omega
            obtain ⟨t0, _, _, _⟩ := HF.out w5 P5.out
            obtain ⟨nX, hnX⟩ : ∃ n, n = wc4.heap.size := ⟨_, rfl⟩
            rw [← hnX] at D1 D2 D3 hw5s
            clear hw5 hnX b0 b1 b2 b3 z0 z1 z2 z3 X4p C0n4 C1n4 C2n4 P4p W4p S5 hFF
            have hkd : kd = 1 ∨ kd = 2 ∨ (kd ≠ 1 ∧ kd ≠ 2) := by omega
            have FIN : Hid (∀ (W : World) (kx : Int), (swapN (⟨kd, lb, lo, lt⟩ : PartN (List UInt8))).kind = kx → Below wp.heap.size wp W → w5.heap.size ≤ W.heap.size → (∀ q, q < nX → q ≠ qb → W.heap[q]? = w5.heap[q]?) → partRel (fun q => wp.heap.size ≤ q ∧ q < W.heap.size) W (swapN ⟨kd, lb, lo, lt⟩) [.int .i64 kx, (.slice p1 lb.length s1), (.slice p2 lt.length s2), (.slice p3 lo.length s3)]) := Lib.hid (fun W kx hkx hb hsW hkq => by
              subst hkx
              exact ⟨(.slice p1 lb.length s1), (.slice p2 lt.length s2), (.slice p3 lo.length s3), rfl, D1.out.kept (fun q hq => ⟨⟨hq.1, by omega⟩, hkq q hq.2.1 hq.2.2⟩), D2.out.kept (fun q hq => ⟨⟨hq.1, by omega⟩, hkq q hq.2.1 hq.2.2⟩), D3.out.kept (fun q hq => ⟨⟨hq.1, by omega⟩, hkq q hq.2.1 hq.2.2⟩)⟩)
            clear D1 D2 D3
            have key : ∀ (kx : Int) (wx : World), (swapN (⟨kd, lb, lo, lt⟩ : PartN (List UInt8))).kind = kx → (wx = w5 ∨ wx = w5.setCell ⟨qb, 0, none⟩ (.int .i64 kx)) → (wx.cell? ⟨qb, 0, none⟩ = some (.int .i64 kx) ∧ wx.cell? ⟨qb, 1, none⟩ = some (.slice p1 lb.length s1) ∧ wx.cell? ⟨qb, 2, none⟩ = some (.slice p2 lt.length s2) ∧ wx.cell? ⟨qb, 3, none⟩ = some (.slice p3 lo.length s3)) → Hid (Below wp.heap.size wp wx ∧ partRel (fun q => wp.heap.size ≤ q ∧ q < wx.heap.size) wx (swapN ⟨kd, lb, lo, lt⟩) [.int .i64 kx, (.slice p1 lb.length s1), (.slice p2 lt.length s2), (.slice p3 lo.length s3)]) := fun kx wx hkx hwx _ => Lib.hid (by
              have hsp : Spares (fun q => q = qb) w5 wx := by
                rcases hwx with rfl | rfl
                · exact Spares.refl _ _
                · exact Spares.of_set (fun q => q = qb) w5 qb 0 _ rfl
              have hb : Below wp.heap.size wp wx := B5.out.trans (hsp.below (fun q e => by have := HQP.out; omega) B5.out.size)
              exact ⟨hb, FIN.out wx kx hkx hb hsp.size (fun q h1 h2 => hsp.block q (by omega) h2)⟩)
            have KEY := Lib.hid key
            clear key
            rcases hkd with hc | hc | ⟨hc, hc'⟩
            · have g1 : (kd == 1) = true := by rw [hc]; rfl
              have hKX := KEY.out 2 (w5.setCell ⟨qb, 0, none⟩ (.int .i64 2)) (by rw [hc]; rfl) (Or.inr rfl) ⟨World.cell?_setCell_same _ _ _ y0, (World.cell?_setCell_other _ _ _ _ (by simp)).trans y1, (World.cell?_setCell_other _ _ _ _ (by simp)).trans y2, (World.cell?_setCell_other _ _ _ _ (by simp)).trans y3⟩
              have k0 : (w5.setCell ⟨qb, 0, none⟩ (.int .i64 2)).cell? ⟨qb, 0, none⟩ = some (.int .i64 2) := World.cell?_setCell_same _ _ _ y0
              have k1 := (World.cell?_setCell_other w5 ⟨qb, 0, none⟩ ⟨qb, 1, none⟩ (.int .i64 2) (by simp)).trans y1
              have k2 := (World.cell?_setCell_other w5 ⟨qb, 0, none⟩ ⟨qb, 2, none⟩ (.int .i64 2) (by simp)).trans y2
              have k3 := (World.cell?_setCell_other w5 ⟨qb, 0, none⟩ ⟨qb, 3, none⟩ (.int .i64 2) (by simp)).trans y3
              clear hc
              go_upto_region 11 with fail
              clear y0 y1 y2 y3
              generalize w5.setCell ⟨qb, 0, none⟩ (.int .i64 2) = w6 at *
              clear KEY FIN
              have OW : Hid (w6.ownsRow w.heap.size 73 4 (.slice hva os.length hvc) os.length css.flatten) := Lib.hid (own_below hO.out.own (fun q _ hq => (hKX.out.1.block q (by have := HPB.out; omega)).trans (B0.out.block q hq)))
              have W6 : Hid (Below w.heap.size w w6) := Lib.hid ((hW.out.trans (B0.out.mono hsz)).trans (hKX.out.1.mono (by have := HPB.out; omega)))
              go_wp2_with (at_builtin; refine wpList_own_src _ rfl _ _ 60 60 rfl w.heap.size 73 j0 (.agg #[.int .i64 0, .slice none 0 0, .slice none 0 0, .slice none 0 0]) 4 80 Try.underlying60 hj hy0 hy1 hy2 rfl (by decide) _ _ _ rfl (World.ownsRow.alloc OW.out _) _ 1 [.int .i64 2, (.slice p1 lb.length s1), (.slice p2 lt.length s2), (.slice p3 lo.length s3)] rfl (srcW_one _ _ _ _ _ _ _ _ _ _ _) (by unfold maxLen; omega) (by omega) (by simp; have := W6.out.size; omega) ?_)
              intro v7 w7 hown7 hg7
              have B7 : Hid (Below w.heap.size w w7) := Lib.hid ((W6.out.alloc W6.out.size _).grown hg7.gb (by simp; have := W6.out.size; omega) (fun q hq => (World.ownsRow.lt OW.out q hq).1))
              have O7 := Lib.hid (hO.out.push part_keeps (w2 := w6.alloc (.cells #[.int .i64 2, (.slice p1 lb.length s1), (.slice p2 lt.length s2), (.slice p3 lo.length s3)] 73)) (fun q hq _ => (Below.heap_alloc _ _ _ (by have := hKX.out.1.size; have := B0.out.size; omega)).trans ((hKX.out.1.block q (by have := HPB.out; omega)).trans (B0.out.block q hq))) (by simp; have := hKX.out.1.size; have := B0.out.size; omega) hg7 rfl (fun u hu => by simp at hu; rcases hu with rfl | rfl | rfl | rfl <;> rfl) hown7 (e := swapN ⟨kd, lb, lo, lt⟩) (part_keeps _ _ _ _ _ _ hKX.out.2 (fun q hq => ⟨⟨trivial, by simp; omega, fun e => by have := (World.ownsRow.lt hO.out.own q e).2; have := HPB.out; have := B0.out.size; omega⟩, Below.heap_alloc _ _ _ hq.2⟩)))
              clear hown7 hg7
              go_wp2_with fail
              go_roundw
              case rel => exact ⟨k + 1, _, _, by omega, by go_num, Lib.hid (by have := hok.out; simp; omega), Lib.hid HTS.out.symm, O7, B7⟩
              case measure => simp [intOf]; omega
            · have g1 : (kd == 1) = false := by rw [hc]; rfl
              have g2 : (kd == 2) = true := by rw [hc]; rfl
              have hKX := KEY.out 1 (w5.setCell ⟨qb, 0, none⟩ (.int .i64 1)) (by rw [hc]; rfl) (Or.inr rfl) ⟨World.cell?_setCell_same _ _ _ y0, (World.cell?_setCell_other _ _ _ _ (by simp)).trans y1, (World.cell?_setCell_other _ _ _ _ (by simp)).trans y2, (World.cell?_setCell_other _ _ _ _ (by simp)).trans y3⟩
              have k0 : (w5.setCell ⟨qb, 0, none⟩ (.int .i64 1)).cell? ⟨qb, 0, none⟩ = some (.int .i64 1) := World.cell?_setCell_same _ _ _ y0
              have k1 := (World.cell?_setCell_other w5 ⟨qb, 0, none⟩ ⟨qb, 1, none⟩ (.int .i64 1) (by simp)).trans y1
              have k2 := (World.cell?_setCell_other w5 ⟨qb, 0, none⟩ ⟨qb, 2, none⟩ (.int .i64 1) (by simp)).trans y2
              have k3 := (World.cell?_setCell_other w5 ⟨qb, 0, none⟩ ⟨qb, 3, none⟩ (.int .i64 1) (by simp)).trans y3
              clear hc
              go_upto_region 11 with fail
              clear y0 y1 y2 y3
              generalize w5.setCell ⟨qb, 0, none⟩ (.int .i64 1) = w6 at *
              clear KEY FIN
              have OW : Hid (w6.ownsRow w.heap.size 73 4 (.slice hva os.length hvc) os.length css.flatten) := Lib.hid (own_below hO.out.own (fun q _ hq => (hKX.out.1.block q (by have := HPB.out; omega)).trans (B0.out.block q hq)))
              have W6 : Hid (Below w.heap.size w w6) := Lib.hid ((hW.out.trans (B0.out.mono hsz)).trans (hKX.out.1.mono (by have := HPB.out; omega)))
              go_wp2_with (at_builtin; refine wpList_own_src _ rfl _ _ 60 60 rfl w.heap.size 73 j0 (.agg #[.int .i64 0, .slice none 0 0, .slice none 0 0, .slice none 0 0]) 4 80 Try.underlying60 hj hy0 hy1 hy2 rfl (by decide) _ _ _ rfl (World.ownsRow.alloc OW.out _) _ 1 [.int .i64 1, (.slice p1 lb.length s1), (.slice p2 lt.length s2), (.slice p3 lo.length s3)] rfl (srcW_one _ _ _ _ _ _ _ _ _ _ _) (by unfold maxLen; omega) (by omega) (by simp; have := W6.out.size; omega) ?_)
              intro v7 w7 hown7 hg7
              have B7 : Hid (Below w.heap.size w w7) := Lib.hid ((W6.out.alloc W6.out.size _).grown hg7.gb (by simp; have := W6.out.size; omega) (fun q hq => (World.ownsRow.lt OW.out q hq).1))
              have O7 := Lib.hid (hO.out.push part_keeps (w2 := w6.alloc (.cells #[.int .i64 1, (.slice p1 lb.length s1), (.slice p2 lt.length s2), (.slice p3 lo.length s3)] 73)) (fun q hq _ => (Below.heap_alloc _ _ _ (by have := hKX.out.1.size; have := B0.out.size; omega)).trans ((hKX.out.1.block q (by have := HPB.out; omega)).trans (B0.out.block q hq))) (by simp; have := hKX.out.1.size; have := B0.out.size; omega) hg7 rfl (fun u hu => by simp at hu; rcases hu with rfl | rfl | rfl | rfl <;> rfl) hown7 (e := swapN ⟨kd, lb, lo, lt⟩) (part_keeps _ _ _ _ _ _ hKX.out.2 (fun q hq => ⟨⟨trivial, by simp; omega, fun e => by have := (World.ownsRow.lt hO.out.own q e).2; have := HPB.out; have := B0.out.size; omega⟩, Below.heap_alloc _ _ _ hq.2⟩)))
              clear hown7 hg7
              go_wp2_with fail
              go_roundw
              case rel => exact ⟨k + 1, _, _, by omega, by go_num, Lib.hid (by have := hok.out; simp; omega), Lib.hid HTS.out.symm, O7, B7⟩
              case measure => simp [intOf]; omega
            · have g1 : (kd == 1) = false := by rw [beq_eq_false_iff_ne]; exact hc
              have g2 : (kd == 2) = false := by rw [beq_eq_false_iff_ne]; exact hc'
              have hKX := KEY.out kd w5 (by show (if kd = 1 then _ else if kd = 2 then _ else kd) = kd; rw [if_neg hc, if_neg hc']) (Or.inl rfl) ⟨y0, y1, y2, y3⟩
              clear hc hc'
              go_upto_region 11 with fail
              obtain ⟨w6, hw6⟩ : ∃ W, W = w5 := ⟨_, rfl⟩
              rw [← hw6] at hKX y0 y1 y2 y3 ⊢
              clear hw6
              clear KEY FIN
              have OW : Hid (w6.ownsRow w.heap.size 73 4 (.slice hva os.length hvc) os.length css.flatten) := Lib.hid (own_below hO.out.own (fun q _ hq => (hKX.out.1.block q (by have := HPB.out; omega)).trans (B0.out.block q hq)))
              have W6 : Hid (Below w.heap.size w w6) := Lib.hid ((hW.out.trans (B0.out.mono hsz)).trans (hKX.out.1.mono (by have := HPB.out; omega)))
              go_wp2_with (at_builtin; refine wpList_own_src _ rfl _ _ 60 60 rfl w.heap.size 73 j0 (.agg #[.int .i64 0, .slice none 0 0, .slice none 0 0, .slice none 0 0]) 4 80 Try.underlying60 hj hy0 hy1 hy2 rfl (by decide) _ _ _ rfl (World.ownsRow.alloc OW.out _) _ 1 [.int .i64 kd, (.slice p1 lb.length s1), (.slice p2 lt.length s2), (.slice p3 lo.length s3)] rfl (srcW_one _ _ _ _ _ _ _ _ _ _ _) (by unfold maxLen; omega) (by omega) (by simp; have := W6.out.size; omega) ?_)
              intro v7 w7 hown7 hg7
              have B7 : Hid (Below w.heap.size w w7) := Lib.hid ((W6.out.alloc W6.out.size _).grown hg7.gb (by simp; have := W6.out.size; omega) (fun q hq => (World.ownsRow.lt OW.out q hq).1))
              have O7 := Lib.hid (hO.out.push part_keeps (w2 := w6.alloc (.cells #[.int .i64 kd, (.slice p1 lb.length s1), (.slice p2 lt.length s2), (.slice p3 lo.length s3)] 73)) (fun q hq _ => (Below.heap_alloc _ _ _ (by have := hKX.out.1.size; have := B0.out.size; omega)).trans ((hKX.out.1.block q (by have := HPB.out; omega)).trans (B0.out.block q hq))) (by simp; have := hKX.out.1.size; have := B0.out.size; omega) hg7 rfl (fun u hu => by simp at hu; rcases hu with rfl | rfl | rfl | rfl <;> rfl) hown7 (e := swapN ⟨kd, lb, lo, lt⟩) (part_keeps _ _ _ _ _ _ hKX.out.2 (fun q hq => ⟨⟨trivial, by simp; omega, fun e => by have := (World.ownsRow.lt hO.out.own q e).2; have := HPB.out; have := B0.out.size; omega⟩, Below.heap_alloc _ _ _ hq.2⟩)))
              clear hown7 hg7
              go_wp2_with fail
              go_roundw
              case rel => exact ⟨k + 1, _, _, by omega, by go_num, Lib.hid (by have := hok.out; simp; omega), Lib.hid HTS.out.symm, O7, B7⟩
              case measure => simp [intOf]; omega
          · go_simp
            refine any_step (fun wc5 hN => ?_)
            have hsw := W2p.out.size
            have hsn : wc5.heap.size = wc2.heap.size + 1 := by rw [hN]; simp
            have C0n5 := Lib.hid (C0n2.out.kept (S' := fun q => wp.heap.size ≤ q ∧ q < wc5.heap.size ∧ q ≠ wc2.heap.size) (w' := wc5) (fun q hq => ⟨by omega, by rw [hN]; exact Below.heap_alloc _ _ _ hq.2⟩))
            have C1n5 := Lib.hid (C1n2.out.kept (S' := fun q => wp.heap.size ≤ q ∧ q < wc5.heap.size ∧ q ≠ wc2.heap.size) (w' := wc5) (fun q hq => ⟨by omega, by rw [hN]; exact Below.heap_alloc _ _ _ hq.2⟩))
            have P5p : Hid (wc5.heap[pb]? = wp.heap[pb]?) := Lib.hid (by rw [hN]; exact (Below.heap_alloc _ _ _ (by omega)).trans P2p.out)
            have W5p : Hid (Below wp.heap.size wp wc5) := Lib.hid (by rw [hN]; exact W2p.out.alloc W2p.out.size _)
            have X5p : Hid (wc5.heap[wc2.heap.size]? = some (.cells #[.int .i64 0, .slice none 0 0, .slice none 0 0, .slice none 0 0] 73 (0, 0)) ∧ wp.heap.size ≤ wc2.heap.size ∧ wc2.heap.size < wc5.heap.size) := Lib.hid ⟨by rw [hN]; exact new_five _ _ _, by omega, by omega⟩
            obtain ⟨qb, hqb⟩ : ∃ qb, wc2.heap.size = qb := ⟨_, rfl⟩
            rw [hqb] at X5p C0n5 C1n5 ⊢
            clear hN hqb hsw hsn P2p W2p C0n2 C1n2
            try go_wp2_with fail
            refine hK.out _ _ (by exact HF.out _ (Hid.out (by assumption))) (fun hHeld => ?_)
            clear hK K
            try simp only [Act.put, List.setIfInBounds_toArray, List.set_cons_zero, List.set_cons_succ]
            refine wpAnyH_ready (rs := [10]) (by kernel_rfl) (by simp) ?_
            refine AllReadyH.cons (o := ⟨_, _, _, _, _, _⟩) rfl (fun K hK => ?_) AllReadyH.nil
            go_simp
            refine (clone_any T _ lo wc5 (fun q hq => by have := HT.out q hq; have := W5p.out.size; omega) (HSR.out _ (B0.out.trans (W5p.out.mono (by omega)))).2.1 (by omega)).mono ?_
            rintro e wc6 ⟨u6, rfl, ho, hb⟩
            have hsb := hb.size
            have hsw := W5p.out.size
            have C0n6 := Lib.hid (C0n5.out.kept (S' := fun q => wp.heap.size ≤ q ∧ q < wc6.heap.size ∧ q ≠ qb) (w' := wc6) (fun q hq => ⟨by omega, hb.block q (by omega)⟩))
            have C1n6 := Lib.hid (C1n5.out.kept (S' := fun q => wp.heap.size ≤ q ∧ q < wc6.heap.size ∧ q ≠ qb) (w' := wc6) (fun q hq => ⟨by omega, hb.block q (by omega)⟩))
            have C2n6 := Lib.hid ((ownS_c ho).kept (S' := fun q => wp.heap.size ≤ q ∧ q < wc6.heap.size ∧ q ≠ qb) (w' := wc6) (fun q hq => ⟨by have := X5p.out.2.2; omega, rfl⟩))
            have P6p : Hid (wc6.heap[pb]? = wp.heap[pb]?) := Lib.hid ((hb.block pb (by omega)).trans P5p.out)
            have W6p : Hid (Below wp.heap.size wp wc6) := Lib.hid (W5p.out.trans (hb.mono (by omega)))
            have X6p : Hid (wc6.heap[qb]? = some (.cells #[.int .i64 0, .slice none 0 0, .slice none 0 0, .slice none 0 0] 73 (0, 0)) ∧ wp.heap.size ≤ qb ∧ qb < wc6.heap.size) := Lib.hid ⟨(hb.block qb X5p.out.2.2).trans X5p.out.1, X5p.out.2.1, by have := X5p.out.2.2; omega⟩
            obtain ⟨p3, s3, rfl⟩ := ownS_slice ho
            clear ho hb hsb hsw P5p W5p C0n5 C1n5 X5p
            try go_wp2_with fail
            refine hK.out _ _ (by exact HF.out _ (Hid.out (by assumption))) (fun hHeld => ?_)
            clear hK K
            try simp only [Act.put, List.setIfInBounds_toArray, List.set_cons_zero, List.set_cons_succ]
            refine wpAnyH_take (i := 11) (oi := ⟨_, _, _, _, _, _⟩) (v := ?_) rfl (by kernel_rfl) (by kernel_rfl) (by kernel_rfl) (fun _ _ _ h => h) (Or.inl ⟨by rfl, ?_⟩) (by assumption) ?_
            rotate_left
            · intro w hSw; (try dsimp only at hSw); first | (go_simp; done) | (go_simp; with_reducible rfl)
            try simp only [Act.put, List.setIfInBounds_toArray, List.set_cons_zero, List.set_cons_succ]
            refine wpAnyH_ready (rs := [13]) (by kernel_rfl) (by simp) ?_
            refine AllReadyH.cons (o := ⟨_, _, _, _, _, _⟩) rfl (fun K hK => ?_) AllReadyH.nil
            skip
            have hFF := fun q => frozen_box X6p.out.1 q
            obtain ⟨b0, b1, b2, b3⟩ := box4 (w' := wc6) X6p.out.1 rfl
            have z0 := hFF 0
            have z1 := hFF 1
            have z2 := hFF 2
            have z3 := hFF 3
            have PK : (set4 wc6 qb (.int .i64 kd) (.slice p1 lb.length s1) (.slice p2 lt.length s2) (.slice p3 lo.length s3)).heap[pb]? = wp.heap[pb]? := ((set4_spares wc6 qb _ _ _ _).block pb (by have := W6p.out.size; omega) (fun e => by have := X6p.out.2.1; omega)).trans P6p.out
            unfold set4 at PK
            have HPK := Lib.hid PK
            clear PK
            go_simp
            try go_wp2_with fail
            refine hK.out _ _ (by exact HF.out _ HPK.out) (fun hHeld => ?_)
            clear hK K
            try simp only [Act.put, List.setIfInBounds_toArray, List.set_cons_zero, List.set_cons_succ]
            refine wpAnyH_done (by kernel_rfl) ?_ _
            clear hHeld
            have P5 : Hid ((set4 wc6 qb (.int .i64 kd) (.slice p1 lb.length s1) (.slice p2 lt.length s2) (.slice p3 lo.length s3)).heap[pb]? = wp.heap[pb]?) := Lib.hid (((set4_spares wc6 qb _ _ _ _).block pb (by have := W6p.out.size; omega) (fun e => by have := X6p.out.2.1; omega)).trans P6p.out)
            have S5 := set4_spares wc6 qb (.int .i64 kd) (.slice p1 lb.length s1) (.slice p2 lt.length s2) (.slice p3 lo.length s3)
            have B5 : Hid (Below wp.heap.size wp (set4 wc6 qb (.int .i64 kd) (.slice p1 lb.length s1) (.slice p2 lt.length s2) (.slice p3 lo.length s3))) := Lib.hid (W6p.out.trans (S5.below (fun q e => by have := X6p.out.2.1; omega) W6p.out.size))
            have D1 := Lib.hid (C0n6.out.kept (S' := fun q => wp.heap.size ≤ q ∧ q < wc6.heap.size ∧ q ≠ qb) (w' := set4 wc6 qb (.int .i64 kd) (.slice p1 lb.length s1) (.slice p2 lt.length s2) (.slice p3 lo.length s3)) (fun q hq => ⟨hq, S5.block q hq.2.1 hq.2.2⟩))
            have D2 := Lib.hid (C1n6.out.kept (S' := fun q => wp.heap.size ≤ q ∧ q < wc6.heap.size ∧ q ≠ qb) (w' := set4 wc6 qb (.int .i64 kd) (.slice p1 lb.length s1) (.slice p2 lt.length s2) (.slice p3 lo.length s3)) (fun q hq => ⟨hq, S5.block q hq.2.1 hq.2.2⟩))
            have D3 := Lib.hid (C2n6.out.kept (S' := fun q => wp.heap.size ≤ q ∧ q < wc6.heap.size ∧ q ≠ qb) (w' := set4 wc6 qb (.int .i64 kd) (.slice p1 lb.length s1) (.slice p2 lt.length s2) (.slice p3 lo.length s3)) (fun q hq => ⟨hq, S5.block q hq.2.1 hq.2.2⟩))
            obtain ⟨y0, y1, y2, y3⟩ := set4_cells b0 b1 b2 b3 (.int .i64 kd) (.slice p1 lb.length s1) (.slice p2 lt.length s2) (.slice p3 lo.length s3)
            have x0 : (set4 wc6 qb (.int .i64 kd) (.slice p1 lb.length s1) (.slice p2 lt.length s2) (.slice p3 lo.length s3)).frozen? ⟨qb, 0, none⟩ = false := by simp [set4, z0]
            have hq5 : qb < (set4 wc6 qb (.int .i64 kd) (.slice p1 lb.length s1) (.slice p2 lt.length s2) (.slice p3 lo.length s3)).heap.size := Nat.lt_of_lt_of_le X6p.out.2.2 S5.size
            have hw5s := S5.size
            have HQP : Hid (wp.heap.size ≤ qb) := Lib.hid X6p.out.2.1
            obtain ⟨w5, hw5⟩ : ∃ W5, set4 wc6 qb (.int .i64 kd) (.slice p1 lb.length s1) (.slice p2 lt.length s2) (.slice p3 lo.length s3) = W5 := ⟨_, rfl⟩
            rw [hw5] at P5 B5 D1 D2 D3 y0 y1 y2 y3 x0 hq5 hw5s
            unfold set4 at hw5
            rw [hw5]
            have hnq : ¬ (qb = pb) := by have := HQP.out; omega
            have hnq2 : ¬ (pb = qb) := by omega
            obtain ⟨t0, _, _, _⟩ := HF.out w5 P5.out
            obtain ⟨nX, hnX⟩ : ∃ n, n = wc6.heap.size := ⟨_, rfl⟩
            rw [← hnX] at D1 D2 D3 hw5s
            clear hw5 hnX b0 b1 b2 b3 z0 z1 z2 z3 X6p C0n6 C1n6 C2n6 P6p W6p S5 hFF
            have hkd : kd = 1 ∨ kd = 2 ∨ (kd ≠ 1 ∧ kd ≠ 2) := by omega
            have FIN : Hid (∀ (W : World) (kx : Int), (swapN (⟨kd, lb, lo, lt⟩ : PartN (List UInt8))).kind = kx → Below wp.heap.size wp W → w5.heap.size ≤ W.heap.size → (∀ q, q < nX → q ≠ qb → W.heap[q]? = w5.heap[q]?) → partRel (fun q => wp.heap.size ≤ q ∧ q < W.heap.size) W (swapN ⟨kd, lb, lo, lt⟩) [.int .i64 kx, (.slice p1 lb.length s1), (.slice p2 lt.length s2), (.slice p3 lo.length s3)]) := Lib.hid (fun W kx hkx hb hsW hkq => by
              subst hkx
              exact ⟨(.slice p1 lb.length s1), (.slice p2 lt.length s2), (.slice p3 lo.length s3), rfl, D1.out.kept (fun q hq => ⟨⟨hq.1, by omega⟩, hkq q hq.2.1 hq.2.2⟩), D2.out.kept (fun q hq => ⟨⟨hq.1, by omega⟩, hkq q hq.2.1 hq.2.2⟩), D3.out.kept (fun q hq => ⟨⟨hq.1, by omega⟩, hkq q hq.2.1 hq.2.2⟩)⟩)
            clear D1 D2 D3
            have key : ∀ (kx : Int) (wx : World), (swapN (⟨kd, lb, lo, lt⟩ : PartN (List UInt8))).kind = kx → (wx = w5 ∨ wx = w5.setCell ⟨qb, 0, none⟩ (.int .i64 kx)) → (wx.cell? ⟨qb, 0, none⟩ = some (.int .i64 kx) ∧ wx.cell? ⟨qb, 1, none⟩ = some (.slice p1 lb.length s1) ∧ wx.cell? ⟨qb, 2, none⟩ = some (.slice p2 lt.length s2) ∧ wx.cell? ⟨qb, 3, none⟩ = some (.slice p3 lo.length s3)) → Hid (Below wp.heap.size wp wx ∧ partRel (fun q => wp.heap.size ≤ q ∧ q < wx.heap.size) wx (swapN ⟨kd, lb, lo, lt⟩) [.int .i64 kx, (.slice p1 lb.length s1), (.slice p2 lt.length s2), (.slice p3 lo.length s3)]) := fun kx wx hkx hwx _ => Lib.hid (by
              have hsp : Spares (fun q => q = qb) w5 wx := by
                rcases hwx with rfl | rfl
                · exact Spares.refl _ _
                · exact Spares.of_set (fun q => q = qb) w5 qb 0 _ rfl
              have hb : Below wp.heap.size wp wx := B5.out.trans (hsp.below (fun q e => by have := HQP.out; omega) B5.out.size)
              exact ⟨hb, FIN.out wx kx hkx hb hsp.size (fun q h1 h2 => hsp.block q (by omega) h2)⟩)
            have KEY := Lib.hid key
            clear key
            rcases hkd with hc | hc | ⟨hc, hc'⟩
            · have g1 : (kd == 1) = true := by rw [hc]; rfl
              have hKX := KEY.out 2 (w5.setCell ⟨qb, 0, none⟩ (.int .i64 2)) (by rw [hc]; rfl) (Or.inr rfl) ⟨World.cell?_setCell_same _ _ _ y0, (World.cell?_setCell_other _ _ _ _ (by simp)).trans y1, (World.cell?_setCell_other _ _ _ _ (by simp)).trans y2, (World.cell?_setCell_other _ _ _ _ (by simp)).trans y3⟩
              have k0 : (w5.setCell ⟨qb, 0, none⟩ (.int .i64 2)).cell? ⟨qb, 0, none⟩ = some (.int .i64 2) := World.cell?_setCell_same _ _ _ y0
              have k1 := (World.cell?_setCell_other w5 ⟨qb, 0, none⟩ ⟨qb, 1, none⟩ (.int .i64 2) (by simp)).trans y1
              have k2 := (World.cell?_setCell_other w5 ⟨qb, 0, none⟩ ⟨qb, 2, none⟩ (.int .i64 2) (by simp)).trans y2
              have k3 := (World.cell?_setCell_other w5 ⟨qb, 0, none⟩ ⟨qb, 3, none⟩ (.int .i64 2) (by simp)).trans y3
              clear hc
              go_upto_region 11 with fail
              clear y0 y1 y2 y3
              generalize w5.setCell ⟨qb, 0, none⟩ (.int .i64 2) = w6 at *
              clear KEY FIN
              have OW : Hid (w6.ownsRow w.heap.size 73 4 (.slice hva os.length hvc) os.length css.flatten) := Lib.hid (own_below hO.out.own (fun q _ hq => (hKX.out.1.block q (by have := HPB.out; omega)).trans (B0.out.block q hq)))
              have W6 : Hid (Below w.heap.size w w6) := Lib.hid ((hW.out.trans (B0.out.mono hsz)).trans (hKX.out.1.mono (by have := HPB.out; omega)))
              go_wp2_with (at_builtin; refine wpList_own_src _ rfl _ _ 60 60 rfl w.heap.size 73 j0 (.agg #[.int .i64 0, .slice none 0 0, .slice none 0 0, .slice none 0 0]) 4 80 Try.underlying60 hj hy0 hy1 hy2 rfl (by decide) _ _ _ rfl (World.ownsRow.alloc OW.out _) _ 1 [.int .i64 2, (.slice p1 lb.length s1), (.slice p2 lt.length s2), (.slice p3 lo.length s3)] rfl (srcW_one _ _ _ _ _ _ _ _ _ _ _) (by unfold maxLen; omega) (by omega) (by simp; have := W6.out.size; omega) ?_)
              intro v7 w7 hown7 hg7
              have B7 : Hid (Below w.heap.size w w7) := Lib.hid ((W6.out.alloc W6.out.size _).grown hg7.gb (by simp; have := W6.out.size; omega) (fun q hq => (World.ownsRow.lt OW.out q hq).1))
              have O7 := Lib.hid (hO.out.push part_keeps (w2 := w6.alloc (.cells #[.int .i64 2, (.slice p1 lb.length s1), (.slice p2 lt.length s2), (.slice p3 lo.length s3)] 73)) (fun q hq _ => (Below.heap_alloc _ _ _ (by have := hKX.out.1.size; have := B0.out.size; omega)).trans ((hKX.out.1.block q (by have := HPB.out; omega)).trans (B0.out.block q hq))) (by simp; have := hKX.out.1.size; have := B0.out.size; omega) hg7 rfl (fun u hu => by simp at hu; rcases hu with rfl | rfl | rfl | rfl <;> rfl) hown7 (e := swapN ⟨kd, lb, lo, lt⟩) (part_keeps _ _ _ _ _ _ hKX.out.2 (fun q hq => ⟨⟨trivial, by simp; omega, fun e => by have := (World.ownsRow.lt hO.out.own q e).2; have := HPB.out; have := B0.out.size; omega⟩, Below.heap_alloc _ _ _ hq.2⟩)))
              clear hown7 hg7
              go_wp2_with fail
              go_roundw
              case rel => exact ⟨k + 1, _, _, by omega, by go_num, Lib.hid (by have := hok.out; simp; omega), Lib.hid HTS.out.symm, O7, B7⟩
              case measure => simp [intOf]; omega
            · have g1 : (kd == 1) = false := by rw [hc]; rfl
              have g2 : (kd == 2) = true := by rw [hc]; rfl
              have hKX := KEY.out 1 (w5.setCell ⟨qb, 0, none⟩ (.int .i64 1)) (by rw [hc]; rfl) (Or.inr rfl) ⟨World.cell?_setCell_same _ _ _ y0, (World.cell?_setCell_other _ _ _ _ (by simp)).trans y1, (World.cell?_setCell_other _ _ _ _ (by simp)).trans y2, (World.cell?_setCell_other _ _ _ _ (by simp)).trans y3⟩
              have k0 : (w5.setCell ⟨qb, 0, none⟩ (.int .i64 1)).cell? ⟨qb, 0, none⟩ = some (.int .i64 1) := World.cell?_setCell_same _ _ _ y0
              have k1 := (World.cell?_setCell_other w5 ⟨qb, 0, none⟩ ⟨qb, 1, none⟩ (.int .i64 1) (by simp)).trans y1
              have k2 := (World.cell?_setCell_other w5 ⟨qb, 0, none⟩ ⟨qb, 2, none⟩ (.int .i64 1) (by simp)).trans y2
              have k3 := (World.cell?_setCell_other w5 ⟨qb, 0, none⟩ ⟨qb, 3, none⟩ (.int .i64 1) (by simp)).trans y3
              clear hc
              go_upto_region 11 with fail
              clear y0 y1 y2 y3
              generalize w5.setCell ⟨qb, 0, none⟩ (.int .i64 1) = w6 at *
              clear KEY FIN
              have OW : Hid (w6.ownsRow w.heap.size 73 4 (.slice hva os.length hvc) os.length css.flatten) := Lib.hid (own_below hO.out.own (fun q _ hq => (hKX.out.1.block q (by have := HPB.out; omega)).trans (B0.out.block q hq)))
              have W6 : Hid (Below w.heap.size w w6) := Lib.hid ((hW.out.trans (B0.out.mono hsz)).trans (hKX.out.1.mono (by have := HPB.out; omega)))
              go_wp2_with (at_builtin; refine wpList_own_src _ rfl _ _ 60 60 rfl w.heap.size 73 j0 (.agg #[.int .i64 0, .slice none 0 0, .slice none 0 0, .slice none 0 0]) 4 80 Try.underlying60 hj hy0 hy1 hy2 rfl (by decide) _ _ _ rfl (World.ownsRow.alloc OW.out _) _ 1 [.int .i64 1, (.slice p1 lb.length s1), (.slice p2 lt.length s2), (.slice p3 lo.length s3)] rfl (srcW_one _ _ _ _ _ _ _ _ _ _ _) (by unfold maxLen; omega) (by omega) (by simp; have := W6.out.size; omega) ?_)
              intro v7 w7 hown7 hg7
              have B7 : Hid (Below w.heap.size w w7) := Lib.hid ((W6.out.alloc W6.out.size _).grown hg7.gb (by simp; have := W6.out.size; omega) (fun q hq => (World.ownsRow.lt OW.out q hq).1))
              have O7 := Lib.hid (hO.out.push part_keeps (w2 := w6.alloc (.cells #[.int .i64 1, (.slice p1 lb.length s1), (.slice p2 lt.length s2), (.slice p3 lo.length s3)] 73)) (fun q hq _ => (Below.heap_alloc _ _ _ (by have := hKX.out.1.size; have := B0.out.size; omega)).trans ((hKX.out.1.block q (by have := HPB.out; omega)).trans (B0.out.block q hq))) (by simp; have := hKX.out.1.size; have := B0.out.size; omega) hg7 rfl (fun u hu => by simp at hu; rcases hu with rfl | rfl | rfl | rfl <;> rfl) hown7 (e := swapN ⟨kd, lb, lo, lt⟩) (part_keeps _ _ _ _ _ _ hKX.out.2 (fun q hq => ⟨⟨trivial, by simp; omega, fun e => by have := (World.ownsRow.lt hO.out.own q e).2; have := HPB.out; have := B0.out.size; omega⟩, Below.heap_alloc _ _ _ hq.2⟩)))
              clear hown7 hg7
              go_wp2_with fail
              go_roundw
              case rel => exact ⟨k + 1, _, _, by omega, by go_num, Lib.hid (by have := hok.out; simp; omega), Lib.hid HTS.out.symm, O7, B7⟩
              case measure => simp [intOf]; omega
            · have g1 : (kd == 1) = false := by rw [beq_eq_false_iff_ne]; exact hc
              have g2 : (kd == 2) = false := by rw [beq_eq_false_iff_ne]; exact hc'
              have hKX := KEY.out kd w5 (by show (if kd = 1 then _ else if kd = 2 then _ else kd) = kd; rw [if_neg hc, if_neg hc']) (Or.inl rfl) ⟨y0, y1, y2, y3⟩
              clear hc hc'
              go_upto_region 11 with fail
              obtain ⟨w6, hw6⟩ : ∃ W, W = w5 := ⟨_, rfl⟩
              rw [← hw6] at hKX y0 y1 y2 y3 ⊢
              clear hw6
              clear KEY FIN
              have OW : Hid (w6.ownsRow w.heap.size 73 4 (.slice hva os.length hvc) os.length css.flatten) := Lib.hid (own_below hO.out.own (fun q _ hq => (hKX.out.1.block q (by have := HPB.out; omega)).trans (B0.out.block q hq)))
              have W6 : Hid (Below w.heap.size w w6) := Lib.hid ((hW.out.trans (B0.out.mono hsz)).trans (hKX.out.1.mono (by have := HPB.out; omega)))
              go_wp2_with (at_builtin; refine wpList_own_src _ rfl _ _ 60 60 rfl w.heap.size 73 j0 (.agg #[.int .i64 0, .slice none 0 0, .slice none 0 0, .slice none 0 0]) 4 80 Try.underlying60 hj hy0 hy1 hy2 rfl (by decide) _ _ _ rfl (World.ownsRow.alloc OW.out _) _ 1 [.int .i64 kd, (.slice p1 lb.length s1), (.slice p2 lt.length s2), (.slice p3 lo.length s3)] rfl (srcW_one _ _ _ _ _ _ _ _ _ _ _) (by unfold maxLen; omega) (by omega) (by simp; have := W6.out.size; omega) ?_)
              intro v7 w7 hown7 hg7
              have B7 : Hid (Below w.heap.size w w7) := Lib.hid ((W6.out.alloc W6.out.size _).grown hg7.gb (by simp; have := W6.out.size; omega) (fun q hq => (World.ownsRow.lt OW.out q hq).1))
              have O7 := Lib.hid (hO.out.push part_keeps (w2 := w6.alloc (.cells #[.int .i64 kd, (.slice p1 lb.length s1), (.slice p2 lt.length s2), (.slice p3 lo.length s3)] 73)) (fun q hq _ => (Below.heap_alloc _ _ _ (by have := hKX.out.1.size; have := B0.out.size; omega)).trans ((hKX.out.1.block q (by have := HPB.out; omega)).trans (B0.out.block q hq))) (by simp; have := hKX.out.1.size; have := B0.out.size; omega) hg7 rfl (fun u hu => by simp at hu; rcases hu with rfl | rfl | rfl | rfl <;> rfl) hown7 (e := swapN ⟨kd, lb, lo, lt⟩) (part_keeps _ _ _ _ _ _ hKX.out.2 (fun q hq => ⟨⟨trivial, by simp; omega, fun e => by have := (World.ownsRow.lt hO.out.own q e).2; have := HPB.out; have := B0.out.size; omega⟩, Below.heap_alloc _ _ _ hq.2⟩)))
              clear hown7 hg7
              go_wp2_with fail
              go_roundw
              case rel => exact ⟨k + 1, _, _, by omega, by go_num, Lib.hid (by have := hok.out; simp; omega), Lib.hid HTS.out.symm, O7, B7⟩
              case measure => simp [intOf]; omega
        · go_simp
          refine any_step (fun wc7 hN => ?_)
          have hsw := W1p.out.size
          have hsn : wc7.heap.size = wc1.heap.size + 1 := by rw [hN]; simp
          have C0n7 := Lib.hid (C0n1.out.kept (S' := fun q => wp.heap.size ≤ q ∧ q < wc7.heap.size ∧ q ≠ wc1.heap.size) (w' := wc7) (fun q hq => ⟨by omega, by rw [hN]; exact Below.heap_alloc _ _ _ hq.2⟩))
          have P7p : Hid (wc7.heap[pb]? = wp.heap[pb]?) := Lib.hid (by rw [hN]; exact (Below.heap_alloc _ _ _ (by omega)).trans P1p.out)
          have W7p : Hid (Below wp.heap.size wp wc7) := Lib.hid (by rw [hN]; exact W1p.out.alloc W1p.out.size _)
          have X7p : Hid (wc7.heap[wc1.heap.size]? = some (.cells #[.int .i64 0, .slice none 0 0, .slice none 0 0, .slice none 0 0] 73 (0, 0)) ∧ wp.heap.size ≤ wc1.heap.size ∧ wc1.heap.size < wc7.heap.size) := Lib.hid ⟨by rw [hN]; exact new_five _ _ _, by omega, by omega⟩
          obtain ⟨qb, hqb⟩ : ∃ qb, wc1.heap.size = qb := ⟨_, rfl⟩
          rw [hqb] at X7p C0n7 ⊢
          clear hN hqb hsw hsn P1p W1p C0n1
          try go_wp2_with fail
          refine hK.out _ _ (by exact HF.out _ (Hid.out (by assumption))) (fun hHeld => ?_)
          clear hK K
          try simp only [Act.put, List.setIfInBounds_toArray, List.set_cons_zero, List.set_cons_succ]
          refine wpAnyH_ready (rs := [7]) (by kernel_rfl) (by simp) ?_
          refine AllReadyH.cons (o := ⟨_, _, _, _, _, _⟩) rfl (fun K hK => ?_) AllReadyH.nil
          go_simp
          refine (clone_any T _ lt wc7 (fun q hq => by have := HT.out q hq; have := W7p.out.size; omega) (HSR.out _ (B0.out.trans (W7p.out.mono (by omega)))).2.2 (by omega)).mono ?_
          rintro e wc8 ⟨u8, rfl, ho, hb⟩
          have hsb := hb.size
          have hsw := W7p.out.size
          have C0n8 := Lib.hid (C0n7.out.kept (S' := fun q => wp.heap.size ≤ q ∧ q < wc8.heap.size ∧ q ≠ qb) (w' := wc8) (fun q hq => ⟨by omega, hb.block q (by omega)⟩))
          have C1n8 := Lib.hid ((ownS_c ho).kept (S' := fun q => wp.heap.size ≤ q ∧ q < wc8.heap.size ∧ q ≠ qb) (w' := wc8) (fun q hq => ⟨by have := X7p.out.2.2; omega, rfl⟩))
          have P8p : Hid (wc8.heap[pb]? = wp.heap[pb]?) := Lib.hid ((hb.block pb (by omega)).trans P7p.out)
          have W8p : Hid (Below wp.heap.size wp wc8) := Lib.hid (W7p.out.trans (hb.mono (by omega)))
          have X8p : Hid (wc8.heap[qb]? = some (.cells #[.int .i64 0, .slice none 0 0, .slice none 0 0, .slice none 0 0] 73 (0, 0)) ∧ wp.heap.size ≤ qb ∧ qb < wc8.heap.size) := Lib.hid ⟨(hb.block qb X7p.out.2.2).trans X7p.out.1, X7p.out.2.1, by have := X7p.out.2.2; omega⟩
          obtain ⟨p2, s2, rfl⟩ := ownS_slice ho
          clear ho hb hsb hsw P7p W7p C0n7 X7p
          try go_wp2_with fail
          refine hK.out _ _ (by exact HF.out _ (Hid.out (by assumption))) (fun hHeld => ?_)
          clear hK K
          try simp only [Act.put, List.setIfInBounds_toArray, List.set_cons_zero, List.set_cons_succ]
          refine wpAnyH_ready (rs := [10]) (by kernel_rfl) (by simp) ?_
          refine AllReadyH.cons (o := ⟨_, _, _, _, _, _⟩) rfl (fun K hK => ?_) AllReadyH.nil
          go_simp
          refine (clone_any T _ lo wc8 (fun q hq => by have := HT.out q hq; have := W8p.out.size; omega) (HSR.out _ (B0.out.trans (W8p.out.mono (by omega)))).2.1 (by omega)).mono ?_
          rintro e wc9 ⟨u9, rfl, ho, hb⟩
          have hsb := hb.size
          have hsw := W8p.out.size
          have C0n9 := Lib.hid (C0n8.out.kept (S' := fun q => wp.heap.size ≤ q ∧ q < wc9.heap.size ∧ q ≠ qb) (w' := wc9) (fun q hq => ⟨by omega, hb.block q (by omega)⟩))
          have C1n9 := Lib.hid (C1n8.out.kept (S' := fun q => wp.heap.size ≤ q ∧ q < wc9.heap.size ∧ q ≠ qb) (w' := wc9) (fun q hq => ⟨by omega, hb.block q (by omega)⟩))
          have C2n9 := Lib.hid ((ownS_c ho).kept (S' := fun q => wp.heap.size ≤ q ∧ q < wc9.heap.size ∧ q ≠ qb) (w' := wc9) (fun q hq => ⟨by have := X8p.out.2.2; omega, rfl⟩))
          have P9p : Hid (wc9.heap[pb]? = wp.heap[pb]?) := Lib.hid ((hb.block pb (by omega)).trans P8p.out)
          have W9p : Hid (Below wp.heap.size wp wc9) := Lib.hid (W8p.out.trans (hb.mono (by omega)))
          have X9p : Hid (wc9.heap[qb]? = some (.cells #[.int .i64 0, .slice none 0 0, .slice none 0 0, .slice none 0 0] 73 (0, 0)) ∧ wp.heap.size ≤ qb ∧ qb < wc9.heap.size) := Lib.hid ⟨(hb.block qb X8p.out.2.2).trans X8p.out.1, X8p.out.2.1, by have := X8p.out.2.2; omega⟩
          obtain ⟨p3, s3, rfl⟩ := ownS_slice ho
          clear ho hb hsb hsw P8p W8p C0n8 C1n8 X8p
          try go_wp2_with fail
          refine hK.out _ _ (by exact HF.out _ (Hid.out (by assumption))) (fun hHeld => ?_)
          clear hK K
          try simp only [Act.put, List.setIfInBounds_toArray, List.set_cons_zero, List.set_cons_succ]
          refine wpAnyH_take (i := 11) (oi := ⟨_, _, _, _, _, _⟩) (v := ?_) rfl (by kernel_rfl) (by kernel_rfl) (by kernel_rfl) (fun _ _ _ h => h) (Or.inl ⟨by rfl, ?_⟩) (by assumption) ?_
          rotate_left
          · intro w hSw; (try dsimp only at hSw); first | (go_simp; done) | (go_simp; with_reducible rfl)
          try simp only [Act.put, List.setIfInBounds_toArray, List.set_cons_zero, List.set_cons_succ]
          refine wpAnyH_ready (rs := [13]) (by kernel_rfl) (by simp) ?_
          refine AllReadyH.cons (o := ⟨_, _, _, _, _, _⟩) rfl (fun K hK => ?_) AllReadyH.nil
          skip
          have hFF := fun q => frozen_box X9p.out.1 q
          obtain ⟨b0, b1, b2, b3⟩ := box4 (w' := wc9) X9p.out.1 rfl
          have z0 := hFF 0
          have z1 := hFF 1
          have z2 := hFF 2
          have z3 := hFF 3
          have PK : (set4 wc9 qb (.int .i64 kd) (.slice p1 lb.length s1) (.slice p2 lt.length s2) (.slice p3 lo.length s3)).heap[pb]? = wp.heap[pb]? := ((set4_spares wc9 qb _ _ _ _).block pb (by have := W9p.out.size; omega) (fun e => by have := X9p.out.2.1; omega)).trans P9p.out
          unfold set4 at PK
          have HPK := Lib.hid PK
          clear PK
          go_simp
          try go_wp2_with fail
          refine hK.out _ _ (by exact HF.out _ HPK.out) (fun hHeld => ?_)
          clear hK K
          try simp only [Act.put, List.setIfInBounds_toArray, List.set_cons_zero, List.set_cons_succ]
          refine wpAnyH_done (by kernel_rfl) ?_ _
          clear hHeld
          have P5 : Hid ((set4 wc9 qb (.int .i64 kd) (.slice p1 lb.length s1) (.slice p2 lt.length s2) (.slice p3 lo.length s3)).heap[pb]? = wp.heap[pb]?) := Lib.hid (((set4_spares wc9 qb _ _ _ _).block pb (by have := W9p.out.size; omega) (fun e => by have := X9p.out.2.1; omega)).trans P9p.out)
          have S5 := set4_spares wc9 qb (.int .i64 kd) (.slice p1 lb.length s1) (.slice p2 lt.length s2) (.slice p3 lo.length s3)
          have B5 : Hid (Below wp.heap.size wp (set4 wc9 qb (.int .i64 kd) (.slice p1 lb.length s1) (.slice p2 lt.length s2) (.slice p3 lo.length s3))) := Lib.hid (W9p.out.trans (S5.below (fun q e => by have := X9p.out.2.1; omega) W9p.out.size))
          have D1 := Lib.hid (C0n9.out.kept (S' := fun q => wp.heap.size ≤ q ∧ q < wc9.heap.size ∧ q ≠ qb) (w' := set4 wc9 qb (.int .i64 kd) (.slice p1 lb.length s1) (.slice p2 lt.length s2) (.slice p3 lo.length s3)) (fun q hq => ⟨hq, S5.block q hq.2.1 hq.2.2⟩))
          have D2 := Lib.hid (C1n9.out.kept (S' := fun q => wp.heap.size ≤ q ∧ q < wc9.heap.size ∧ q ≠ qb) (w' := set4 wc9 qb (.int .i64 kd) (.slice p1 lb.length s1) (.slice p2 lt.length s2) (.slice p3 lo.length s3)) (fun q hq => ⟨hq, S5.block q hq.2.1 hq.2.2⟩))
          have D3 := Lib.hid (C2n9.out.kept (S' := fun q => wp.heap.size ≤ q ∧ q < wc9.heap.size ∧ q ≠ qb) (w' := set4 wc9 qb (.int .i64 kd) (.slice p1 lb.length s1) (.slice p2 lt.length s2) (.slice p3 lo.length s3)) (fun q hq => ⟨hq, S5.block q hq.2.1 hq.2.2⟩))
          obtain ⟨y0, y1, y2, y3⟩ := set4_cells b0 b1 b2 b3 (.int .i64 kd) (.slice p1 lb.length s1) (.slice p2 lt.length s2) (.slice p3 lo.length s3)
          have x0 : (set4 wc9 qb (.int .i64 kd) (.slice p1 lb.length s1) (.slice p2 lt.length s2) (.slice p3 lo.length s3)).frozen? ⟨qb, 0, none⟩ = false := by simp [set4, z0]
          have hq5 : qb < (set4 wc9 qb (.int .i64 kd) (.slice p1 lb.length s1) (.slice p2 lt.length s2) (.slice p3 lo.length s3)).heap.size := Nat.lt_of_lt_of_le X9p.out.2.2 S5.size
          have hw5s := S5.size
          have HQP : Hid (wp.heap.size ≤ qb) := Lib.hid X9p.out.2.1
          obtain ⟨w5, hw5⟩ : ∃ W5, set4 wc9 qb (.int .i64 kd) (.slice p1 lb.length s1) (.slice p2 lt.length s2) (.slice p3 lo.length s3) = W5 := ⟨_, rfl⟩
          rw [hw5] at P5 B5 D1 D2 D3 y0 y1 y2 y3 x0 hq5 hw5s
          unfold set4 at hw5
          rw [hw5]
          have hnq : ¬ (qb = pb) := by have := HQP.out; omega
          have hnq2 : ¬ (pb = qb) := by omega
          obtain ⟨t0, _, _, _⟩ := HF.out w5 P5.out
          obtain ⟨nX, hnX⟩ : ∃ n, n = wc9.heap.size := ⟨_, rfl⟩
          rw [← hnX] at D1 D2 D3 hw5s
          clear hw5 hnX b0 b1 b2 b3 z0 z1 z2 z3 X9p C0n9 C1n9 C2n9 P9p W9p S5 hFF
          have hkd : kd = 1 ∨ kd = 2 ∨ (kd ≠ 1 ∧ kd ≠ 2) := by omega
          have FIN : Hid (∀ (W : World) (kx : Int), (swapN (⟨kd, lb, lo, lt⟩ : PartN (List UInt8))).kind = kx → Below wp.heap.size wp W → w5.heap.size ≤ W.heap.size → (∀ q, q < nX → q ≠ qb → W.heap[q]? = w5.heap[q]?) → partRel (fun q => wp.heap.size ≤ q ∧ q < W.heap.size) W (swapN ⟨kd, lb, lo, lt⟩) [.int .i64 kx, (.slice p1 lb.length s1), (.slice p2 lt.length s2), (.slice p3 lo.length s3)]) := Lib.hid (fun W kx hkx hb hsW hkq => by
            subst hkx
            exact ⟨(.slice p1 lb.length s1), (.slice p2 lt.length s2), (.slice p3 lo.length s3), rfl, D1.out.kept (fun q hq => ⟨⟨hq.1, by omega⟩, hkq q hq.2.1 hq.2.2⟩), D2.out.kept (fun q hq => ⟨⟨hq.1, by omega⟩, hkq q hq.2.1 hq.2.2⟩), D3.out.kept (fun q hq => ⟨⟨hq.1, by omega⟩, hkq q hq.2.1 hq.2.2⟩)⟩)
          clear D1 D2 D3
          have key : ∀ (kx : Int) (wx : World), (swapN (⟨kd, lb, lo, lt⟩ : PartN (List UInt8))).kind = kx → (wx = w5 ∨ wx = w5.setCell ⟨qb, 0, none⟩ (.int .i64 kx)) → (wx.cell? ⟨qb, 0, none⟩ = some (.int .i64 kx) ∧ wx.cell? ⟨qb, 1, none⟩ = some (.slice p1 lb.length s1) ∧ wx.cell? ⟨qb, 2, none⟩ = some (.slice p2 lt.length s2) ∧ wx.cell? ⟨qb, 3, none⟩ = some (.slice p3 lo.length s3)) → Hid (Below wp.heap.size wp wx ∧ partRel (fun q => wp.heap.size ≤ q ∧ q < wx.heap.size) wx (swapN ⟨kd, lb, lo, lt⟩) [.int .i64 kx, (.slice p1 lb.length s1), (.slice p2 lt.length s2), (.slice p3 lo.length s3)]) := fun kx wx hkx hwx _ => Lib.hid (by
            have hsp : Spares (fun q => q = qb) w5 wx := by
              rcases hwx with rfl | rfl
              · exact Spares.refl _ _
              · exact Spares.of_set (fun q => q = qb) w5 qb 0 _ rfl
            have hb : Below wp.heap.size wp wx := B5.out.trans (hsp.below (fun q e => by have := HQP.out; omega) B5.out.size)
            exact ⟨hb, FIN.out wx kx hkx hb hsp.size (fun q h1 h2 => hsp.block q (by omega) h2)⟩)
          have KEY := Lib.hid key
          clear key
          rcases hkd with hc | hc | ⟨hc, hc'⟩
          · have g1 : (kd == 1) = true := by rw [hc]; rfl
            have hKX := KEY.out 2 (w5.setCell ⟨qb, 0, none⟩ (.int .i64 2)) (by rw [hc]; rfl) (Or.inr rfl) ⟨World.cell?_setCell_same _ _ _ y0, (World.cell?_setCell_other _ _ _ _ (by simp)).trans y1, (World.cell?_setCell_other _ _ _ _ (by simp)).trans y2, (World.cell?_setCell_other _ _ _ _ (by simp)).trans y3⟩
            have k0 : (w5.setCell ⟨qb, 0, none⟩ (.int .i64 2)).cell? ⟨qb, 0, none⟩ = some (.int .i64 2) := World.cell?_setCell_same _ _ _ y0
            have k1 := (World.cell?_setCell_other w5 ⟨qb, 0, none⟩ ⟨qb, 1, none⟩ (.int .i64 2) (by simp)).trans y1
            have k2 := (World.cell?_setCell_other w5 ⟨qb, 0, none⟩ ⟨qb, 2, none⟩ (.int .i64 2) (by simp)).trans y2
            have k3 := (World.cell?_setCell_other w5 ⟨qb, 0, none⟩ ⟨qb, 3, none⟩ (.int .i64 2) (by simp)).trans y3
            clear hc
            go_upto_region 11 with fail
            clear y0 y1 y2 y3
            generalize w5.setCell ⟨qb, 0, none⟩ (.int .i64 2) = w6 at *
            clear KEY FIN
            have OW : Hid (w6.ownsRow w.heap.size 73 4 (.slice hva os.length hvc) os.length css.flatten) := Lib.hid (own_below hO.out.own (fun q _ hq => (hKX.out.1.block q (by have := HPB.out; omega)).trans (B0.out.block q hq)))
            have W6 : Hid (Below w.heap.size w w6) := Lib.hid ((hW.out.trans (B0.out.mono hsz)).trans (hKX.out.1.mono (by have := HPB.out; omega)))
            go_wp2_with (at_builtin; refine wpList_own_src _ rfl _ _ 60 60 rfl w.heap.size 73 j0 (.agg #[.int .i64 0, .slice none 0 0, .slice none 0 0, .slice none 0 0]) 4 80 Try.underlying60 hj hy0 hy1 hy2 rfl (by decide) _ _ _ rfl (World.ownsRow.alloc OW.out _) _ 1 [.int .i64 2, (.slice p1 lb.length s1), (.slice p2 lt.length s2), (.slice p3 lo.length s3)] rfl (srcW_one _ _ _ _ _ _ _ _ _ _ _) (by unfold maxLen; omega) (by omega) (by simp; have := W6.out.size; omega) ?_)
            intro v7 w7 hown7 hg7
            have B7 : Hid (Below w.heap.size w w7) := Lib.hid ((W6.out.alloc W6.out.size _).grown hg7.gb (by simp; have := W6.out.size; omega) (fun q hq => (World.ownsRow.lt OW.out q hq).1))
            have O7 := Lib.hid (hO.out.push part_keeps (w2 := w6.alloc (.cells #[.int .i64 2, (.slice p1 lb.length s1), (.slice p2 lt.length s2), (.slice p3 lo.length s3)] 73)) (fun q hq _ => (Below.heap_alloc _ _ _ (by have := hKX.out.1.size; have := B0.out.size; omega)).trans ((hKX.out.1.block q (by have := HPB.out; omega)).trans (B0.out.block q hq))) (by simp; have := hKX.out.1.size; have := B0.out.size; omega) hg7 rfl (fun u hu => by simp at hu; rcases hu with rfl | rfl | rfl | rfl <;> rfl) hown7 (e := swapN ⟨kd, lb, lo, lt⟩) (part_keeps _ _ _ _ _ _ hKX.out.2 (fun q hq => ⟨⟨trivial, by simp; omega, fun e => by have := (World.ownsRow.lt hO.out.own q e).2; have := HPB.out; have := B0.out.size; omega⟩, Below.heap_alloc _ _ _ hq.2⟩)))
            clear hown7 hg7
            go_wp2_with fail
            go_roundw
            case rel => exact ⟨k + 1, _, _, by omega, by go_num, Lib.hid (by have := hok.out; simp; omega), Lib.hid HTS.out.symm, O7, B7⟩
            case measure => simp [intOf]; omega
          · have g1 : (kd == 1) = false := by rw [hc]; rfl
            have g2 : (kd == 2) = true := by rw [hc]; rfl
            have hKX := KEY.out 1 (w5.setCell ⟨qb, 0, none⟩ (.int .i64 1)) (by rw [hc]; rfl) (Or.inr rfl) ⟨World.cell?_setCell_same _ _ _ y0, (World.cell?_setCell_other _ _ _ _ (by simp)).trans y1, (World.cell?_setCell_other _ _ _ _ (by simp)).trans y2, (World.cell?_setCell_other _ _ _ _ (by simp)).trans y3⟩
            have k0 : (w5.setCell ⟨qb, 0, none⟩ (.int .i64 1)).cell? ⟨qb, 0, none⟩ = some (.int .i64 1) := World.cell?_setCell_same _ _ _ y0
            have k1 := (World.cell?_setCell_other w5 ⟨qb, 0, none⟩ ⟨qb, 1, none⟩ (.int .i64 1) (by simp)).trans y1
            have k2 := (World.cell?_setCell_other w5 ⟨qb, 0, none⟩ ⟨qb, 2, none⟩ (.int .i64 1) (by simp)).trans y2
            have k3 := (World.cell?_setCell_other w5 ⟨qb, 0, none⟩ ⟨qb, 3, none⟩ (.int .i64 1) (by simp)).trans y3
            clear hc
            go_upto_region 11 with fail
            clear y0 y1 y2 y3
            generalize w5.setCell ⟨qb, 0, none⟩ (.int .i64 1) = w6 at *
            clear KEY FIN
            have OW : Hid (w6.ownsRow w.heap.size 73 4 (.slice hva os.length hvc) os.length css.flatten) := Lib.hid (own_below hO.out.own (fun q _ hq => (hKX.out.1.block q (by have := HPB.out; omega)).trans (B0.out.block q hq)))
            have W6 : Hid (Below w.heap.size w w6) := Lib.hid ((hW.out.trans (B0.out.mono hsz)).trans (hKX.out.1.mono (by have := HPB.out; omega)))
            go_wp2_with (at_builtin; refine wpList_own_src _ rfl _ _ 60 60 rfl w.heap.size 73 j0 (.agg #[.int .i64 0, .slice none 0 0, .slice none 0 0, .slice none 0 0]) 4 80 Try.underlying60 hj hy0 hy1 hy2 rfl (by decide) _ _ _ rfl (World.ownsRow.alloc OW.out _) _ 1 [.int .i64 1, (.slice p1 lb.length s1), (.slice p2 lt.length s2), (.slice p3 lo.length s3)] rfl (srcW_one _ _ _ _ _ _ _ _ _ _ _) (by unfold maxLen; omega) (by omega) (by simp; have := W6.out.size; omega) ?_)
            intro v7 w7 hown7 hg7
            have B7 : Hid (Below w.heap.size w w7) := Lib.hid ((W6.out.alloc W6.out.size _).grown hg7.gb (by simp; have := W6.out.size; omega) (fun q hq => (World.ownsRow.lt OW.out q hq).1))
            have O7 := Lib.hid (hO.out.push part_keeps (w2 := w6.alloc (.cells #[.int .i64 1, (.slice p1 lb.length s1), (.slice p2 lt.length s2), (.slice p3 lo.length s3)] 73)) (fun q hq _ => (Below.heap_alloc _ _ _ (by have := hKX.out.1.size; have := B0.out.size; omega)).trans ((hKX.out.1.block q (by have := HPB.out; omega)).trans (B0.out.block q hq))) (by simp; have := hKX.out.1.size; have := B0.out.size; omega) hg7 rfl (fun u hu => by simp at hu; rcases hu with rfl | rfl | rfl | rfl <;> rfl) hown7 (e := swapN ⟨kd, lb, lo, lt⟩) (part_keeps _ _ _ _ _ _ hKX.out.2 (fun q hq => ⟨⟨trivial, by simp; omega, fun e => by have := (World.ownsRow.lt hO.out.own q e).2; have := HPB.out; have := B0.out.size; omega⟩, Below.heap_alloc _ _ _ hq.2⟩)))
            clear hown7 hg7
            go_wp2_with fail
            go_roundw
            case rel => exact ⟨k + 1, _, _, by omega, by go_num, Lib.hid (by have := hok.out; simp; omega), Lib.hid HTS.out.symm, O7, B7⟩
            case measure => simp [intOf]; omega
          · have g1 : (kd == 1) = false := by rw [beq_eq_false_iff_ne]; exact hc
            have g2 : (kd == 2) = false := by rw [beq_eq_false_iff_ne]; exact hc'
            have hKX := KEY.out kd w5 (by show (if kd = 1 then _ else if kd = 2 then _ else kd) = kd; rw [if_neg hc, if_neg hc']) (Or.inl rfl) ⟨y0, y1, y2, y3⟩
            clear hc hc'
            go_upto_region 11 with fail
            obtain ⟨w6, hw6⟩ : ∃ W, W = w5 := ⟨_, rfl⟩
            rw [← hw6] at hKX y0 y1 y2 y3 ⊢
            clear hw6
            clear KEY FIN
            have OW : Hid (w6.ownsRow w.heap.size 73 4 (.slice hva os.length hvc) os.length css.flatten) := Lib.hid (own_below hO.out.own (fun q _ hq => (hKX.out.1.block q (by have := HPB.out; omega)).trans (B0.out.block q hq)))
            have W6 : Hid (Below w.heap.size w w6) := Lib.hid ((hW.out.trans (B0.out.mono hsz)).trans (hKX.out.1.mono (by have := HPB.out; omega)))
            go_wp2_with (at_builtin; refine wpList_own_src _ rfl _ _ 60 60 rfl w.heap.size 73 j0 (.agg #[.int .i64 0, .slice none 0 0, .slice none 0 0, .slice none 0 0]) 4 80 Try.underlying60 hj hy0 hy1 hy2 rfl (by decide) _ _ _ rfl (World.ownsRow.alloc OW.out _) _ 1 [.int .i64 kd, (.slice p1 lb.length s1), (.slice p2 lt.length s2), (.slice p3 lo.length s3)] rfl (srcW_one _ _ _ _ _ _ _ _ _ _ _) (by unfold maxLen; omega) (by omega) (by simp; have := W6.out.size; omega) ?_)
            intro v7 w7 hown7 hg7
            have B7 : Hid (Below w.heap.size w w7) := Lib.hid ((W6.out.alloc W6.out.size _).grown hg7.gb (by simp; have := W6.out.size; omega) (fun q hq => (World.ownsRow.lt OW.out q hq).1))
            have O7 := Lib.hid (hO.out.push part_keeps (w2 := w6.alloc (.cells #[.int .i64 kd, (.slice p1 lb.length s1), (.slice p2 lt.length s2), (.slice p3 lo.length s3)] 73)) (fun q hq _ => (Below.heap_alloc _ _ _ (by have := hKX.out.1.size; have := B0.out.size; omega)).trans ((hKX.out.1.block q (by have := HPB.out; omega)).trans (B0.out.block q hq))) (by simp; have := hKX.out.1.size; have := B0.out.size; omega) hg7 rfl (fun u hu => by simp at hu; rcases hu with rfl | rfl | rfl | rfl <;> rfl) hown7 (e := swapN ⟨kd, lb, lo, lt⟩) (part_keeps _ _ _ _ _ _ hKX.out.2 (fun q hq => ⟨⟨trivial, by simp; omega, fun e => by have := (World.ownsRow.lt hO.out.own q e).2; have := HPB.out; have := B0.out.size; omega⟩, Below.heap_alloc _ _ _ hq.2⟩)))
            clear hown7 hg7
            go_wp2_with fail
            go_roundw
            case rel => exact ⟨k + 1, _, _, by omega, by go_num, Lib.hid (by have := hok.out; simp; omega), Lib.hid HTS.out.symm, O7, B7⟩
            case measure => simp [intOf]; omega
      · go_simp
        refine any_step (fun wc10 hN => ?_)
        have hsw := BD.out.size
        have hsn : wc10.heap.size = wd.heap.size + 1 := by rw [hN]; simp
        have P10p : Hid (wc10.heap[pb]? = wp.heap[pb]?) := Lib.hid (by rw [hN]; exact (Below.heap_alloc _ _ _ (by omega)).trans PD.out)
        have W10p : Hid (Below wp.heap.size wp wc10) := Lib.hid (by rw [hN]; exact BD.out.alloc BD.out.size _)
        have X10p : Hid (wc10.heap[wd.heap.size]? = some (.cells #[.int .i64 0, .slice none 0 0, .slice none 0 0, .slice none 0 0] 73 (0, 0)) ∧ wp.heap.size ≤ wd.heap.size ∧ wd.heap.size < wc10.heap.size) := Lib.hid ⟨by rw [hN]; exact new_five _ _ _, by omega, by omega⟩
        obtain ⟨qb, hqb⟩ : ∃ qb, wd.heap.size = qb := ⟨_, rfl⟩
        rw [hqb] at X10p  ⊢
        clear hN hqb hsw hsn PD BD 
        try go_wp2_with fail
        refine hK.out _ _ (by exact HF.out _ (Hid.out (by assumption))) (fun hHeld => ?_)
        clear hK K
        try simp only [Act.put, List.setIfInBounds_toArray, List.set_cons_zero, List.set_cons_succ]
        refine wpAnyH_ready (rs := [4]) (by kernel_rfl) (by simp) ?_
        refine AllReadyH.cons (o := ⟨_, _, _, _, _, _⟩) rfl (fun K hK => ?_) AllReadyH.nil
        go_simp
        refine (clone_any T _ lb wc10 (fun q hq => by have := HT.out q hq; have := W10p.out.size; omega) (HSR.out _ (B0.out.trans (W10p.out.mono (by omega)))).1 (by omega)).mono ?_
        rintro e wc11 ⟨u11, rfl, ho, hb⟩
        have hsb := hb.size
        have hsw := W10p.out.size
        have C0n11 := Lib.hid ((ownS_c ho).kept (S' := fun q => wp.heap.size ≤ q ∧ q < wc11.heap.size ∧ q ≠ qb) (w' := wc11) (fun q hq => ⟨by have := X10p.out.2.2; omega, rfl⟩))
        have P11p : Hid (wc11.heap[pb]? = wp.heap[pb]?) := Lib.hid ((hb.block pb (by omega)).trans P10p.out)
        have W11p : Hid (Below wp.heap.size wp wc11) := Lib.hid (W10p.out.trans (hb.mono (by omega)))
        have X11p : Hid (wc11.heap[qb]? = some (.cells #[.int .i64 0, .slice none 0 0, .slice none 0 0, .slice none 0 0] 73 (0, 0)) ∧ wp.heap.size ≤ qb ∧ qb < wc11.heap.size) := Lib.hid ⟨(hb.block qb X10p.out.2.2).trans X10p.out.1, X10p.out.2.1, by have := X10p.out.2.2; omega⟩
        obtain ⟨p1, s1, rfl⟩ := ownS_slice ho
        clear ho hb hsb hsw P10p W10p  X10p
        try go_wp2_with fail
        refine hK.out _ _ (by exact HF.out _ (Hid.out (by assumption))) (fun hHeld => ?_)
        clear hK K
        try simp only [Act.put, List.setIfInBounds_toArray, List.set_cons_zero, List.set_cons_succ]
        refine wpAnyH_ready (rs := [7]) (by kernel_rfl) (by simp) ?_
        refine AllReadyH.cons (o := ⟨_, _, _, _, _, _⟩) rfl (fun K hK => ?_) AllReadyH.nil
        go_simp
        refine (clone_any T _ lt wc11 (fun q hq => by have := HT.out q hq; have := W11p.out.size; omega) (HSR.out _ (B0.out.trans (W11p.out.mono (by omega)))).2.2 (by omega)).mono ?_
        rintro e wc12 ⟨u12, rfl, ho, hb⟩
        have hsb := hb.size
        have hsw := W11p.out.size
        have C0n12 := Lib.hid (C0n11.out.kept (S' := fun q => wp.heap.size ≤ q ∧ q < wc12.heap.size ∧ q ≠ qb) (w' := wc12) (fun q hq => ⟨by omega, hb.block q (by omega)⟩))
        have C1n12 := Lib.hid ((ownS_c ho).kept (S' := fun q => wp.heap.size ≤ q ∧ q < wc12.heap.size ∧ q ≠ qb) (w' := wc12) (fun q hq => ⟨by have := X11p.out.2.2; omega, rfl⟩))
        have P12p : Hid (wc12.heap[pb]? = wp.heap[pb]?) := Lib.hid ((hb.block pb (by omega)).trans P11p.out)
        have W12p : Hid (Below wp.heap.size wp wc12) := Lib.hid (W11p.out.trans (hb.mono (by omega)))
        have X12p : Hid (wc12.heap[qb]? = some (.cells #[.int .i64 0, .slice none 0 0, .slice none 0 0, .slice none 0 0] 73 (0, 0)) ∧ wp.heap.size ≤ qb ∧ qb < wc12.heap.size) := Lib.hid ⟨(hb.block qb X11p.out.2.2).trans X11p.out.1, X11p.out.2.1, by have := X11p.out.2.2; omega⟩
        obtain ⟨p2, s2, rfl⟩ := ownS_slice ho
        clear ho hb hsb hsw P11p W11p C0n11 X11p
        try go_wp2_with fail
        refine hK.out _ _ (by exact HF.out _ (Hid.out (by assumption))) (fun hHeld => ?_)
        clear hK K
        try simp only [Act.put, List.setIfInBounds_toArray, List.set_cons_zero, List.set_cons_succ]
        refine wpAnyH_ready (rs := [10]) (by kernel_rfl) (by simp) ?_
        refine AllReadyH.cons (o := ⟨_, _, _, _, _, _⟩) rfl (fun K hK => ?_) AllReadyH.nil
        go_simp
        refine (clone_any T _ lo wc12 (fun q hq => by have := HT.out q hq; have := W12p.out.size; omega) (HSR.out _ (B0.out.trans (W12p.out.mono (by omega)))).2.1 (by omega)).mono ?_
        rintro e wc13 ⟨u13, rfl, ho, hb⟩
        have hsb := hb.size
        have hsw := W12p.out.size
        have C0n13 := Lib.hid (C0n12.out.kept (S' := fun q => wp.heap.size ≤ q ∧ q < wc13.heap.size ∧ q ≠ qb) (w' := wc13) (fun q hq => ⟨by omega, hb.block q (by omega)⟩))
        have C1n13 := Lib.hid (C1n12.out.kept (S' := fun q => wp.heap.size ≤ q ∧ q < wc13.heap.size ∧ q ≠ qb) (w' := wc13) (fun q hq => ⟨by omega, hb.block q (by omega)⟩))
        have C2n13 := Lib.hid ((ownS_c ho).kept (S' := fun q => wp.heap.size ≤ q ∧ q < wc13.heap.size ∧ q ≠ qb) (w' := wc13) (fun q hq => ⟨by have := X12p.out.2.2; omega, rfl⟩))
        have P13p : Hid (wc13.heap[pb]? = wp.heap[pb]?) := Lib.hid ((hb.block pb (by omega)).trans P12p.out)
        have W13p : Hid (Below wp.heap.size wp wc13) := Lib.hid (W12p.out.trans (hb.mono (by omega)))
        have X13p : Hid (wc13.heap[qb]? = some (.cells #[.int .i64 0, .slice none 0 0, .slice none 0 0, .slice none 0 0] 73 (0, 0)) ∧ wp.heap.size ≤ qb ∧ qb < wc13.heap.size) := Lib.hid ⟨(hb.block qb X12p.out.2.2).trans X12p.out.1, X12p.out.2.1, by have := X12p.out.2.2; omega⟩
        obtain ⟨p3, s3, rfl⟩ := ownS_slice ho
        clear ho hb hsb hsw P12p W12p C0n12 C1n12 X12p
        try go_wp2_with fail
        refine hK.out _ _ (by exact HF.out _ (Hid.out (by assumption))) (fun hHeld => ?_)
        clear hK K
        try simp only [Act.put, List.setIfInBounds_toArray, List.set_cons_zero, List.set_cons_succ]
        refine wpAnyH_take (i := 11) (oi := ⟨_, _, _, _, _, _⟩) (v := ?_) rfl (by kernel_rfl) (by kernel_rfl) (by kernel_rfl) (fun _ _ _ h => h) (Or.inl ⟨by rfl, ?_⟩) (by assumption) ?_
        rotate_left
        · intro w hSw; (try dsimp only at hSw); first | (go_simp; done) | (go_simp; with_reducible rfl)
        try simp only [Act.put, List.setIfInBounds_toArray, List.set_cons_zero, List.set_cons_succ]
        refine wpAnyH_ready (rs := [13]) (by kernel_rfl) (by simp) ?_
        refine AllReadyH.cons (o := ⟨_, _, _, _, _, _⟩) rfl (fun K hK => ?_) AllReadyH.nil
        skip
        have hFF := fun q => frozen_box X13p.out.1 q
        obtain ⟨b0, b1, b2, b3⟩ := box4 (w' := wc13) X13p.out.1 rfl
        have z0 := hFF 0
        have z1 := hFF 1
        have z2 := hFF 2
        have z3 := hFF 3
        have PK : (set4 wc13 qb (.int .i64 kd) (.slice p1 lb.length s1) (.slice p2 lt.length s2) (.slice p3 lo.length s3)).heap[pb]? = wp.heap[pb]? := ((set4_spares wc13 qb _ _ _ _).block pb (by have := W13p.out.size; omega) (fun e => by have := X13p.out.2.1; omega)).trans P13p.out
        unfold set4 at PK
        have HPK := Lib.hid PK
        clear PK
        go_simp
        try go_wp2_with fail
        refine hK.out _ _ (by exact HF.out _ HPK.out) (fun hHeld => ?_)
        clear hK K
        try simp only [Act.put, List.setIfInBounds_toArray, List.set_cons_zero, List.set_cons_succ]
        refine wpAnyH_done (by kernel_rfl) ?_ _
        clear hHeld
        have P5 : Hid ((set4 wc13 qb (.int .i64 kd) (.slice p1 lb.length s1) (.slice p2 lt.length s2) (.slice p3 lo.length s3)).heap[pb]? = wp.heap[pb]?) := Lib.hid (((set4_spares wc13 qb _ _ _ _).block pb (by have := W13p.out.size; omega) (fun e => by have := X13p.out.2.1; omega)).trans P13p.out)
        have S5 := set4_spares wc13 qb (.int .i64 kd) (.slice p1 lb.length s1) (.slice p2 lt.length s2) (.slice p3 lo.length s3)
        have B5 : Hid (Below wp.heap.size wp (set4 wc13 qb (.int .i64 kd) (.slice p1 lb.length s1) (.slice p2 lt.length s2) (.slice p3 lo.length s3))) := Lib.hid (W13p.out.trans (S5.below (fun q e => by have := X13p.out.2.1; omega) W13p.out.size))
        have D1 := Lib.hid (C0n13.out.kept (S' := fun q => wp.heap.size ≤ q ∧ q < wc13.heap.size ∧ q ≠ qb) (w' := set4 wc13 qb (.int .i64 kd) (.slice p1 lb.length s1) (.slice p2 lt.length s2) (.slice p3 lo.length s3)) (fun q hq => ⟨hq, S5.block q hq.2.1 hq.2.2⟩))
        have D2 := Lib.hid (C1n13.out.kept (S' := fun q => wp.heap.size ≤ q ∧ q < wc13.heap.size ∧ q ≠ qb) (w' := set4 wc13 qb (.int .i64 kd) (.slice p1 lb.length s1) (.slice p2 lt.length s2) (.slice p3 lo.length s3)) (fun q hq => ⟨hq, S5.block q hq.2.1 hq.2.2⟩))
        have D3 := Lib.hid (C2n13.out.kept (S' := fun q => wp.heap.size ≤ q ∧ q < wc13.heap.size ∧ q ≠ qb) (w' := set4 wc13 qb (.int .i64 kd) (.slice p1 lb.length s1) (.slice p2 lt.length s2) (.slice p3 lo.length s3)) (fun q hq => ⟨hq, S5.block q hq.2.1 hq.2.2⟩))
        obtain ⟨y0, y1, y2, y3⟩ := set4_cells b0 b1 b2 b3 (.int .i64 kd) (.slice p1 lb.length s1) (.slice p2 lt.length s2) (.slice p3 lo.length s3)
        have x0 : (set4 wc13 qb (.int .i64 kd) (.slice p1 lb.length s1) (.slice p2 lt.length s2) (.slice p3 lo.length s3)).frozen? ⟨qb, 0, none⟩ = false := by simp [set4, z0]
        have hq5 : qb < (set4 wc13 qb (.int .i64 kd) (.slice p1 lb.length s1) (.slice p2 lt.length s2) (.slice p3 lo.length s3)).heap.size := Nat.lt_of_lt_of_le X13p.out.2.2 S5.size
        have hw5s := S5.size
        have HQP : Hid (wp.heap.size ≤ qb) := Lib.hid X13p.out.2.1
        obtain ⟨w5, hw5⟩ : ∃ W5, set4 wc13 qb (.int .i64 kd) (.slice p1 lb.length s1) (.slice p2 lt.length s2) (.slice p3 lo.length s3) = W5 := ⟨_, rfl⟩
        rw [hw5] at P5 B5 D1 D2 D3 y0 y1 y2 y3 x0 hq5 hw5s
        unfold set4 at hw5
        rw [hw5]
        have hnq : ¬ (qb = pb) := by have := HQP.out; omega
        have hnq2 : ¬ (pb = qb) := by omega
        obtain ⟨t0, _, _, _⟩ := HF.out w5 P5.out
        obtain ⟨nX, hnX⟩ : ∃ n, n = wc13.heap.size := ⟨_, rfl⟩
        rw [← hnX] at D1 D2 D3 hw5s
        clear hw5 hnX b0 b1 b2 b3 z0 z1 z2 z3 X13p C0n13 C1n13 C2n13 P13p W13p S5 hFF
        have hkd : kd = 1 ∨ kd = 2 ∨ (kd ≠ 1 ∧ kd ≠ 2) := by omega
        have FIN : Hid (∀ (W : World) (kx : Int), (swapN (⟨kd, lb, lo, lt⟩ : PartN (List UInt8))).kind = kx → Below wp.heap.size wp W → w5.heap.size ≤ W.heap.size → (∀ q, q < nX → q ≠ qb → W.heap[q]? = w5.heap[q]?) → partRel (fun q => wp.heap.size ≤ q ∧ q < W.heap.size) W (swapN ⟨kd, lb, lo, lt⟩) [.int .i64 kx, (.slice p1 lb.length s1), (.slice p2 lt.length s2), (.slice p3 lo.length s3)]) := Lib.hid (fun W kx hkx hb hsW hkq => by
          subst hkx
          exact ⟨(.slice p1 lb.length s1), (.slice p2 lt.length s2), (.slice p3 lo.length s3), rfl, D1.out.kept (fun q hq => ⟨⟨hq.1, by omega⟩, hkq q hq.2.1 hq.2.2⟩), D2.out.kept (fun q hq => ⟨⟨hq.1, by omega⟩, hkq q hq.2.1 hq.2.2⟩), D3.out.kept (fun q hq => ⟨⟨hq.1, by omega⟩, hkq q hq.2.1 hq.2.2⟩)⟩)
        clear D1 D2 D3
        have key : ∀ (kx : Int) (wx : World), (swapN (⟨kd, lb, lo, lt⟩ : PartN (List UInt8))).kind = kx → (wx = w5 ∨ wx = w5.setCell ⟨qb, 0, none⟩ (.int .i64 kx)) → (wx.cell? ⟨qb, 0, none⟩ = some (.int .i64 kx) ∧ wx.cell? ⟨qb, 1, none⟩ = some (.slice p1 lb.length s1) ∧ wx.cell? ⟨qb, 2, none⟩ = some (.slice p2 lt.length s2) ∧ wx.cell? ⟨qb, 3, none⟩ = some (.slice p3 lo.length s3)) → Hid (Below wp.heap.size wp wx ∧ partRel (fun q => wp.heap.size ≤ q ∧ q < wx.heap.size) wx (swapN ⟨kd, lb, lo, lt⟩) [.int .i64 kx, (.slice p1 lb.length s1), (.slice p2 lt.length s2), (.slice p3 lo.length s3)]) := fun kx wx hkx hwx _ => Lib.hid (by
          have hsp : Spares (fun q => q = qb) w5 wx := by
            rcases hwx with rfl | rfl
            · exact Spares.refl _ _
            · exact Spares.of_set (fun q => q = qb) w5 qb 0 _ rfl
          have hb : Below wp.heap.size wp wx := B5.out.trans (hsp.below (fun q e => by have := HQP.out; omega) B5.out.size)
          exact ⟨hb, FIN.out wx kx hkx hb hsp.size (fun q h1 h2 => hsp.block q (by omega) h2)⟩)
        have KEY := Lib.hid key
        clear key
        rcases hkd with hc | hc | ⟨hc, hc'⟩
        · have g1 : (kd == 1) = true := by rw [hc]; rfl
          have hKX := KEY.out 2 (w5.setCell ⟨qb, 0, none⟩ (.int .i64 2)) (by rw [hc]; rfl) (Or.inr rfl) ⟨World.cell?_setCell_same _ _ _ y0, (World.cell?_setCell_other _ _ _ _ (by simp)).trans y1, (World.cell?_setCell_other _ _ _ _ (by simp)).trans y2, (World.cell?_setCell_other _ _ _ _ (by simp)).trans y3⟩
          have k0 : (w5.setCell ⟨qb, 0, none⟩ (.int .i64 2)).cell? ⟨qb, 0, none⟩ = some (.int .i64 2) := World.cell?_setCell_same _ _ _ y0
          have k1 := (World.cell?_setCell_other w5 ⟨qb, 0, none⟩ ⟨qb, 1, none⟩ (.int .i64 2) (by simp)).trans y1
          have k2 := (World.cell?_setCell_other w5 ⟨qb, 0, none⟩ ⟨qb, 2, none⟩ (.int .i64 2) (by simp)).trans y2
          have k3 := (World.cell?_setCell_other w5 ⟨qb, 0, none⟩ ⟨qb, 3, none⟩ (.int .i64 2) (by simp)).trans y3
          clear hc
          go_upto_region 11 with fail
          clear y0 y1 y2 y3
          generalize w5.setCell ⟨qb, 0, none⟩ (.int .i64 2) = w6 at *
          clear KEY FIN
          have OW : Hid (w6.ownsRow w.heap.size 73 4 (.slice hva os.length hvc) os.length css.flatten) := Lib.hid (own_below hO.out.own (fun q _ hq => (hKX.out.1.block q (by have := HPB.out; omega)).trans (B0.out.block q hq)))
          have W6 : Hid (Below w.heap.size w w6) := Lib.hid ((hW.out.trans (B0.out.mono hsz)).trans (hKX.out.1.mono (by have := HPB.out; omega)))
          go_wp2_with (at_builtin; refine wpList_own_src _ rfl _ _ 60 60 rfl w.heap.size 73 j0 (.agg #[.int .i64 0, .slice none 0 0, .slice none 0 0, .slice none 0 0]) 4 80 Try.underlying60 hj hy0 hy1 hy2 rfl (by decide) _ _ _ rfl (World.ownsRow.alloc OW.out _) _ 1 [.int .i64 2, (.slice p1 lb.length s1), (.slice p2 lt.length s2), (.slice p3 lo.length s3)] rfl (srcW_one _ _ _ _ _ _ _ _ _ _ _) (by unfold maxLen; omega) (by omega) (by simp; have := W6.out.size; omega) ?_)
          intro v7 w7 hown7 hg7
          have B7 : Hid (Below w.heap.size w w7) := Lib.hid ((W6.out.alloc W6.out.size _).grown hg7.gb (by simp; have := W6.out.size; omega) (fun q hq => (World.ownsRow.lt OW.out q hq).1))
          have O7 := Lib.hid (hO.out.push part_keeps (w2 := w6.alloc (.cells #[.int .i64 2, (.slice p1 lb.length s1), (.slice p2 lt.length s2), (.slice p3 lo.length s3)] 73)) (fun q hq _ => (Below.heap_alloc _ _ _ (by have := hKX.out.1.size; have := B0.out.size; omega)).trans ((hKX.out.1.block q (by have := HPB.out; omega)).trans (B0.out.block q hq))) (by simp; have := hKX.out.1.size; have := B0.out.size; omega) hg7 rfl (fun u hu => by simp at hu; rcases hu with rfl | rfl | rfl | rfl <;> rfl) hown7 (e := swapN ⟨kd, lb, lo, lt⟩) (part_keeps _ _ _ _ _ _ hKX.out.2 (fun q hq => ⟨⟨trivial, by simp; omega, fun e => by have := (World.ownsRow.lt hO.out.own q e).2; have := HPB.out; have := B0.out.size; omega⟩, Below.heap_alloc _ _ _ hq.2⟩)))
          clear hown7 hg7
          go_wp2_with fail
          go_roundw
          case rel => exact ⟨k + 1, _, _, by omega, by go_num, Lib.hid (by have := hok.out; simp; omega), Lib.hid HTS.out.symm, O7, B7⟩
          case measure => simp [intOf]; omega
        · have g1 : (kd == 1) = false := by rw [hc]; rfl
          have g2 : (kd == 2) = true := by rw [hc]; rfl
          have hKX := KEY.out 1 (w5.setCell ⟨qb, 0, none⟩ (.int .i64 1)) (by rw [hc]; rfl) (Or.inr rfl) ⟨World.cell?_setCell_same _ _ _ y0, (World.cell?_setCell_other _ _ _ _ (by simp)).trans y1, (World.cell?_setCell_other _ _ _ _ (by simp)).trans y2, (World.cell?_setCell_other _ _ _ _ (by simp)).trans y3⟩
          have k0 : (w5.setCell ⟨qb, 0, none⟩ (.int .i64 1)).cell? ⟨qb, 0, none⟩ = some (.int .i64 1) := World.cell?_setCell_same _ _ _ y0
          have k1 := (World.cell?_setCell_other w5 ⟨qb, 0, none⟩ ⟨qb, 1, none⟩ (.int .i64 1) (by simp)).trans y1
          have k2 := (World.cell?_setCell_other w5 ⟨qb, 0, none⟩ ⟨qb, 2, none⟩ (.int .i64 1) (by simp)).trans y2
          have k3 := (World.cell?_setCell_other w5 ⟨qb, 0, none⟩ ⟨qb, 3, none⟩ (.int .i64 1) (by simp)).trans y3
          clear hc
          go_upto_region 11 with fail
          clear y0 y1 y2 y3
          generalize w5.setCell ⟨qb, 0, none⟩ (.int .i64 1) = w6 at *
          clear KEY FIN
          have OW : Hid (w6.ownsRow w.heap.size 73 4 (.slice hva os.length hvc) os.length css.flatten) := Lib.hid (own_below hO.out.own (fun q _ hq => (hKX.out.1.block q (by have := HPB.out; omega)).trans (B0.out.block q hq)))
          have W6 : Hid (Below w.heap.size w w6) := Lib.hid ((hW.out.trans (B0.out.mono hsz)).trans (hKX.out.1.mono (by have := HPB.out; omega)))
          go_wp2_with (at_builtin; refine wpList_own_src _ rfl _ _ 60 60 rfl w.heap.size 73 j0 (.agg #[.int .i64 0, .slice none 0 0, .slice none 0 0, .slice none 0 0]) 4 80 Try.underlying60 hj hy0 hy1 hy2 rfl (by decide) _ _ _ rfl (World.ownsRow.alloc OW.out _) _ 1 [.int .i64 1, (.slice p1 lb.length s1), (.slice p2 lt.length s2), (.slice p3 lo.length s3)] rfl (srcW_one _ _ _ _ _ _ _ _ _ _ _) (by unfold maxLen; omega) (by omega) (by simp; have := W6.out.size; omega) ?_)
          intro v7 w7 hown7 hg7
          have B7 : Hid (Below w.heap.size w w7) := Lib.hid ((W6.out.alloc W6.out.size _).grown hg7.gb (by simp; have := W6.out.size; omega) (fun q hq => (World.ownsRow.lt OW.out q hq).1))
          have O7 := Lib.hid (hO.out.push part_keeps (w2 := w6.alloc (.cells #[.int .i64 1, (.slice p1 lb.length s1), (.slice p2 lt.length s2), (.slice p3 lo.length s3)] 73)) (fun q hq _ => (Below.heap_alloc _ _ _ (by have := hKX.out.1.size; have := B0.out.size; omega)).trans ((hKX.out.1.block q (by have := HPB.out; omega)).trans (B0.out.block q hq))) (by simp; have := hKX.out.1.size; have := B0.out.size; omega) hg7 rfl (fun u hu => by simp at hu; rcases hu with rfl | rfl | rfl | rfl <;> rfl) hown7 (e := swapN ⟨kd, lb, lo, lt⟩) (part_keeps _ _ _ _ _ _ hKX.out.2 (fun q hq => ⟨⟨trivial, by simp; omega, fun e => by have := (World.ownsRow.lt hO.out.own q e).2; have := HPB.out; have := B0.out.size; omega⟩, Below.heap_alloc _ _ _ hq.2⟩)))
          clear hown7 hg7
          go_wp2_with fail
          go_roundw
          case rel => exact ⟨k + 1, _, _, by omega, by go_num, Lib.hid (by have := hok.out; simp; omega), Lib.hid HTS.out.symm, O7, B7⟩
          case measure => simp [intOf]; omega
        · have g1 : (kd == 1) = false := by rw [beq_eq_false_iff_ne]; exact hc
          have g2 : (kd == 2) = false := by rw [beq_eq_false_iff_ne]; exact hc'
          have hKX := KEY.out kd w5 (by show (if kd = 1 then _ else if kd = 2 then _ else kd) = kd; rw [if_neg hc, if_neg hc']) (Or.inl rfl) ⟨y0, y1, y2, y3⟩
          clear hc hc'
          go_upto_region 11 with fail
          obtain ⟨w6, hw6⟩ : ∃ W, W = w5 := ⟨_, rfl⟩
          rw [← hw6] at hKX y0 y1 y2 y3 ⊢
          clear hw6
          clear KEY FIN
          have OW : Hid (w6.ownsRow w.heap.size 73 4 (.slice hva os.length hvc) os.length css.flatten) := Lib.hid (own_below hO.out.own (fun q _ hq => (hKX.out.1.block q (by have := HPB.out; omega)).trans (B0.out.block q hq)))
          have W6 : Hid (Below w.heap.size w w6) := Lib.hid ((hW.out.trans (B0.out.mono hsz)).trans (hKX.out.1.mono (by have := HPB.out; omega)))
          go_wp2_with (at_builtin; refine wpList_own_src _ rfl _ _ 60 60 rfl w.heap.size 73 j0 (.agg #[.int .i64 0, .slice none 0 0, .slice none 0 0, .slice none 0 0]) 4 80 Try.underlying60 hj hy0 hy1 hy2 rfl (by decide) _ _ _ rfl (World.ownsRow.alloc OW.out _) _ 1 [.int .i64 kd, (.slice p1 lb.length s1), (.slice p2 lt.length s2), (.slice p3 lo.length s3)] rfl (srcW_one _ _ _ _ _ _ _ _ _ _ _) (by unfold maxLen; omega) (by omega) (by simp; have := W6.out.size; omega) ?_)
          intro v7 w7 hown7 hg7
          have B7 : Hid (Below w.heap.size w w7) := Lib.hid ((W6.out.alloc W6.out.size _).grown hg7.gb (by simp; have := W6.out.size; omega) (fun q hq => (World.ownsRow.lt OW.out q hq).1))
          have O7 := Lib.hid (hO.out.push part_keeps (w2 := w6.alloc (.cells #[.int .i64 kd, (.slice p1 lb.length s1), (.slice p2 lt.length s2), (.slice p3 lo.length s3)] 73)) (fun q hq _ => (Below.heap_alloc _ _ _ (by have := hKX.out.1.size; have := B0.out.size; omega)).trans ((hKX.out.1.block q (by have := HPB.out; omega)).trans (B0.out.block q hq))) (by simp; have := hKX.out.1.size; have := B0.out.size; omega) hg7 rfl (fun u hu => by simp at hu; rcases hu with rfl | rfl | rfl | rfl <;> rfl) hown7 (e := swapN ⟨kd, lb, lo, lt⟩) (part_keeps _ _ _ _ _ _ hKX.out.2 (fun q hq => ⟨⟨trivial, by simp; omega, fun e => by have := (World.ownsRow.lt hO.out.own q e).2; have := HPB.out; have := B0.out.size; omega⟩, Below.heap_alloc _ _ _ hq.2⟩)))
          clear hown7 hg7
          go_wp2_with fail
          go_roundw
          case rel => exact ⟨k + 1, _, _, by omega, by go_num, Lib.hid (by have := hok.out; simp; omega), Lib.hid HTS.out.symm, O7, B7⟩
          case measure => simp [intOf]; omega
    · have hkl : hs.take k = hs := List.take_of_length_le (by omega)
      have HQ : Hid (os = hs.map swapN) := Lib.hid (by rw [hOS.out, hkl])
      clear hkl
      go_wp2_with fail
      go_ret
      have h := hO.out.rows part_keeps
      have key : ∀ t, os = t → PartsC (fun k => k < wr.heap.size) wr (.slice hva os.length hvc) t := fun t ht => by subst ht; exact h.kept part_keeps (fun q hq => ⟨hq.2, rfl⟩)
      exact ⟨_, rfl, key _ HQ.out, hW.out⟩
end Go.Proofs.Ytfiogjdjcocbnaa
