/- The walks of walk and Pairs. -/
import Derived.Test.YtfiogjdjcocbnaaLinH
namespace Go.Proofs.Ytfiogjdjcocbnaa
open Go.RowKit

/-- Pairs of places as cells. -/
def p2 (P : List (Nat × Nat)) : List Value := P.flatMap fun p => [.int .i64 (p.1 : Int), .int .i64 (p.2 : Int)]
theorem p2_append (P Q : List (Nat × Nat)) : p2 (P ++ Q) = p2 P ++ p2 Q := by unfold p2; simp
theorem p2_len (P : List (Nat × Nat)) : (p2 P).length = P.length * 2 := by
  induction P with
  | nil => rfl
  | cons p P ih => unfold p2 at ih ⊢; rw [List.flatMap_cons, List.length_append, ih]; simp; omega
theorem p2_one (P : List (Nat × Nat)) : ∀ u ∈ p2 P, u.oneCell' = true := by
  intro u hu
  unfold p2 at hu
  obtain ⟨p, _, hp⟩ := List.mem_flatMap.1 hu
  simp at hp
  rcases hp with rfl | rfl <;> rfl
theorem p2_at : ∀ (P : List (Nat × Nat)) (k : Nat), k < P.length → (p2 P)[k * 2]? = some (.int .i64 ((P.getD k (0, 0)).1 : Int)) ∧ (p2 P)[k * 2 + 1]? = some (.int .i64 ((P.getD k (0, 0)).2 : Int))
  | [], k, h => by simp at h
  | p :: P, 0, _ => ⟨rfl, rfl⟩
  | p :: P, k + 1, h => by
    have ih := p2_at P k (by simpa using h)
    have e : ∀ i, (p2 (p :: P))[(k + 1) * 2 + i]? = (p2 P)[k * 2 + i]? := fun i => by
      show ([Value.int .i64 (p.1 : Int), .int .i64 (p.2 : Int)] ++ p2 P)[(k + 1) * 2 + i]? = _
      rw [List.getElem?_append_right (by simp; omega)]
      congr 1
      simp; omega
    exact ⟨(e 0).trans ih.1, (e 1).trans ih.2⟩
def OwnP (w : World) (B : Nat) (v : Value) (P : List (Nat × Nat)) : Prop := w.ownsRow B 46 2 v P.length (p2 P)
def PairsC (S : Nat → Prop) (w : World) (v : Value) (P : List (Nat × Nat)) : Prop := CellsC S w v P.length 2 (p2 P)
theorem ownP_nil (w : World) (B : Nat) : OwnP w B (.slice none 0 0) [] := World.ownsRow_nil _ _ _ _
theorem ownP_push {w2 : World} {B : Nat} {v : Value} {P : List (Nat × Nat)} {x y : Nat} (h : w2.ownsRow B 46 2 v (P.length + 1) (p2 P ++ [.int .i64 (x : Int), .int .i64 (y : Int)])) : OwnP w2 B v (P ++ [(x, y)]) := by
  unfold OwnP
  rw [p2_append, List.length_append]; exact h
theorem ownP_slice {w : World} {B : Nat} {v : Value} {P : List (Nat × Nat)} (h : OwnP w B v P) : ∃ a cap, v = .slice a P.length cap := by
  rcases h.2 with ⟨e, hn⟩ | ⟨g, cap, cur, e, _⟩
  · rw [hn]; exact ⟨none, 0, e⟩
  · exact ⟨_, _, e⟩
theorem ownP_c {w : World} {B : Nat} {v : Value} {P : List (Nat × Nat)} (h : OwnP w B v P) : PairsC (fun k => B ≤ k ∧ k < w.heap.size) w v P := own_cells h (p2_one P)
theorem srcP_one (w : World) (x y : Int) : Src Try.prog 2 31 (.slice (some ⟨w.heap.size, 0, none⟩) 1 1) 1 [.int .i64 x, .int .i64 y] (w.alloc (.cells #[.int .i64 x, .int .i64 y] 46)) :=
  Src.ofSlice _ Try.underlying31 _ 1 1 _ rfl (fun j u hj => by
    rw [add_pos, Nat.zero_add, World.cell?_alloc_mark]; simpa using hj) (fun u hu => by
    simp at hu; rcases hu with rfl | rfl <;> rfl)
theorem Try.info46p : (Try.prog.info? 46).map (fun i => (i.zero, i.size, i.bytes)) = some (some (.agg #[.int .i64 0, .int .i64 0]), 2, 16) := by kernel_rfl
theorem walk_at {a b : List Nat} {i j : Nat} (hi : i < a.length) (hj : j < b.length) :
    (a.getD i 0 = b.getD j 0 → pairsN (a.drop i) i (b.drop j) j = (i, j) :: pairsN (a.drop (i + 1)) (i + 1) (b.drop (j + 1)) (j + 1)) ∧
    (a.getD i 0 ≠ b.getD j 0 → lcs (a.drop (i + 1)) (b.drop j) = lcs (a.drop i) (b.drop j) → pairsN (a.drop i) i (b.drop j) j = pairsN (a.drop (i + 1)) (i + 1) (b.drop j) j) ∧
    (a.getD i 0 ≠ b.getD j 0 → lcs (a.drop (i + 1)) (b.drop j) ≠ lcs (a.drop i) (b.drop j) → pairsN (a.drop i) i (b.drop j) j = pairsN (a.drop i) i (b.drop (j + 1)) (j + 1)) := by
  rw [getD_at hi, getD_at hj]
  have ea := List.drop_eq_getElem_cons hi
  have eb := List.drop_eq_getElem_cons hj
  refine ⟨fun e => ?_, fun e h => ?_, fun e h => ?_⟩
  · rw [ea, eb, e, pairsN_same]
  · rw [ea, eb] at h ⊢
    rw [pairsN_down e h]
  · rw [ea, eb] at h ⊢
    rw [pairsN_right e h]
/-- What walk, and Pairs, leave. -/
def PairsP (w : World) (P : List (Nat × Nat)) (e : Ending) (w' : World) : Prop := ∃ v, e = .returned v ∧ OwnP w' w.heap.size v P ∧ Below w.heap.size w w'
set_option maxRecDepth 100000 in
set_option maxHeartbeats 8000000 in
theorem walk_any (S T : Nat → Prop) (va vb : Value) (a b : List Nat) (n : Nat) (w : World) (hS : ∀ k, S k → k < w.heap.size) (hT : ∀ k, T k → k < w.heap.size) (ha : IntsC S w va a) (hb : IntsC T w vb b) (hal : a.length ≤ 4194304) (hbl : b.length ≤ 4194304)
    (hn : (a.length + 1) * (b.length + 1) = n) (hnb : n ≤ 8388608) :
    Calls Try.prog 46 #[va, vb] w (PairsP w (pairsN a 0 b 0)) := by
  obtain ⟨i0, hi, hz0, hz1, hz2⟩ := info_parts Try.info46p
  have HC := Lib.hid (common_any S T va vb a b n w hS hT ha hb hal hbl hn hnb)
  obtain ⟨aa, ac, rfl⟩ := ha.shape
  obtain ⟨ba, bc, rfl⟩ := hb.shape
  have HS := Lib.hid hS
  have HT := Lib.hid hT
  have HA := Lib.hid ha
  have HB := Lib.hid hb
  have HN := Lib.hid hn
  obtain ⟨PP, hPP⟩ : ∃ PP, pairsN a 0 b 0 = PP := ⟨_, rfl⟩
  rw [hPP]
  have HPP := Lib.hid hPP
  clear hS hT ha hb hn hPP
  go_enter Try.func46, Try.ntmps46
  go_wp2_with fail
  refine HC.out.mono ?_
  rintro e w2 ⟨tb, cb, f, rfl, hT2, hTo2, hB2⟩
  have T2 := Lib.hid hT2
  have TO := Lib.hid hTo2
  have B2 := Lib.hid hB2
  clear hT2 hTo2 hB2
  go_wp2_with fail
  go_loopw [6, 7, 8] (fun v i j wr => ∃ (x y : Nat) (P : List (Nat × Nat)), x ≤ a.length ∧ y ≤ b.length ∧ P.length ≤ x ∧ i = .int .i64 x ∧ j = .int .i64 y ∧ Hid (OwnP wr w2.heap.size v P) ∧ Hid (P ++ pairsN (a.drop x) x (b.drop y) y = PP) ∧ Hid (Below w2.heap.size w2 wr)) (fun _ i j _ => (a.length - (intOf i).toNat) + (b.length - (intOf j).toNat))
  case atStart => exact ⟨0, 0, [], Nat.zero_le _, Nat.zero_le _, Nat.le_refl _, rfl, rfl, Lib.hid (ownP_nil _ _), Lib.hid HPP.out, Lib.hid (Below.refl _ _)⟩
  case round =>
    obtain ⟨x, y, P, hx, hy, hPx, rfl, rfl, hO, hE, hW⟩ := hrel
    obtain ⟨oa, oc, rfl⟩ := ownP_slice hO.out
    by_cases hxa : x < a.length
    · by_cases hyb : y < b.length
      · obtain ⟨ga, o1, rfl, hSa, _, _, hca⟩ := HA.out.at (by omega)
        obtain ⟨gb, o2, rfl, hSb, _, _, hcb⟩ := HB.out.at (by omega)
        have hs2 := B2.out.size
        have BW := Lib.hid (B2.out.trans (hW.out.mono hs2))
        have c1 := (BW.out.cell (p := ⟨ga, o1 + x, none⟩) (HS.out _ hSa)).trans (hca x hxa)
        have c2 := (BW.out.cell (p := ⟨gb, o2 + y, none⟩) (HT.out _ hSb)).trans (hcb y hyb)
        have hsz := hW.out.size
        have T3 : Hid (Tab wr tb cb ((b.length : Int) + 1) n f) := Lib.hid (T2.out.kept (hW.out.block tb T2.out.lt.1) (hW.out.block cb T2.out.lt.2) hsz)
        obtain ⟨hst1, hst2, hst3⟩ := walk_at hxa hyb
        have ST1 := Lib.hid hst1
        have ST2 := Lib.hid hst2
        have ST3 := Lib.hid hst3
        have HP1 := Lib.hid (TO.out (x + 1) y (by omega) (by omega) (Or.inl (by omega)))
        have HP0 := Lib.hid (TO.out x y (by omega) (by omega) (Or.inl (by omega)))
        have L0 : Hid (x * (b.length + 1) + y < n) := Lib.hid (by have := place_lt (la := a.length) (lb := b.length) (p := x) (q := y) (by omega) (by omega); have := HN.out; omega)
        have L1 : Hid ((x + 1) * (b.length + 1) + y < n) := Lib.hid (by have := place_lt (la := a.length) (lb := b.length) (p := x + 1) (q := y) (by omega) (by omega); have := HN.out; omega)
        have E0 : Hid ((x : Int) * ((b.length : Int) + 1) + (y : Int) = ((x * (b.length + 1) + y : Nat) : Int)) := Lib.hid (by push_cast; rfl)
        have E1 : Hid (((x : Int) + 1) * ((b.length : Int) + 1) + (y : Int) = (((x + 1) * (b.length + 1) + y : Nat) : Int)) := Lib.hid (by push_cast; rfl)
        clear hca hcb hst1 hst2 hst3
        generalize x * (b.length + 1) + y = k0 at *
        generalize (x + 1) * (b.length + 1) + y = k1 at *
        generalize lcs (a.drop (x + 1)) (b.drop y) = q1 at *
        generalize lcs (a.drop x) (b.drop y) = q0 at *
        by_cases he : a.getD x 0 = b.getD y 0
        · have ge : ((a.getD x 0 : Int) == (b.getD y 0 : Int)) = true := by rw [he]; simp
          have HR : Hid (P ++ [(x, y)] ++ pairsN (a.drop (x + 1)) (x + 1) (b.drop (y + 1)) (y + 1) = PP) := Lib.hid (by rw [← hE.out, ST1.out he]; simp)
          generalize a.getD x 0 = ua at *
          generalize b.getD y 0 = ub at *
          clear he ST1 ST2 ST3 hE
          go_wp2_with fail
          go_quiet (fail)
          have O3 : Hid (OwnP (wr.drewN nq) w2.heap.size (.slice oa P.length oc) P) := Lib.hid (own_below hO.out (fun _ _ _ => rfl))
          have W3 := Lib.hid (hW.out.trans (drewn w2.heap.size wr nq))
          have hsz3 : w2.heap.size ≤ (wr.drewN nq).heap.size := hsz
          clear c1 c2 hO hW
          generalize wr.drewN nq = wq at *
          go_wp2_with (at_builtin; refine wpList_own_src _ rfl _ _ 31 31 rfl w2.heap.size 46 i0 (.agg #[.int .i64 0, .int .i64 0]) 2 16 Try.underlying31 hi hz0 hz1 hz2 rfl (by decide) _ _ _ rfl (World.ownsRow.alloc O3.out _) _ 1 [.int .i64 (x : Int), .int .i64 (y : Int)] rfl (srcP_one _ _ _) (by unfold maxLen; omega) (by omega) (by simp; omega) ?_)
          intro v5 w5 hown5 hg5
          have O5 : Hid (OwnP w5 w2.heap.size v5 (P ++ [(x, y)])) := Lib.hid (ownP_push hown5)
          have W5 : Hid (Below w2.heap.size w2 w5) := Lib.hid ((W3.out.alloc W3.out.size _).grown hg5.gb (by simp; omega) (fun j hj => (World.ownsRow.lt O3.out j hj).1))
          clear hown5 hg5
          go_wp2_with fail
          go_roundw
          case rel => exact ⟨x + 1, y + 1, P ++ [(x, y)], by omega, by omega, by simp; omega, by go_num, by go_num, O5, HR, W5⟩
          case measure => simp [intOf]; omega
        · have ge : ((a.getD x 0 : Int) == (b.getD y 0 : Int)) = false := by rw [beq_eq_false_iff_ne]; omega
          have S2 := Lib.hid (ST2.out he)
          have S3 := Lib.hid (ST3.out he)
          generalize a.getD x 0 = ua at *
          generalize b.getD y 0 = ub at *
          clear he ST1 ST2 ST3
          go_wp2_with fail
          go_quiet (fail)
          have O3 : Hid (OwnP (wr.drewN nq) w2.heap.size (.slice oa P.length oc) P) := Lib.hid (own_below hO.out (fun _ _ _ => rfl))
          have W3 := Lib.hid (hW.out.trans (drewn w2.heap.size wr nq))
          have T4 := Lib.hid (T3.out.drewN nq)
          clear c1 c2 hO hW
          generalize wr.drewN nq = wq at *
          have t0 := T4.out.c0
          have t1 := T4.out.c1
          have d1 := T4.out.cs k1 L1.out
          have d0 := T4.out.cs k0 L0.out
          rw [HP1.out] at d1
          rw [HP0.out] at d0
          have hw1 : IntKind.i64.wrap ((x : Int) + 1) = (x : Int) + 1 := IntWalk.i64_in _ (by omega)
          have C1 := Lib.hid (fun m => cell_any tb cb n _ ((x : Int) + 1) (y : Int) k1 (wq.drewN m) t0 t1 (by omega) (by omega) (by omega) E1.out L1.out hnb)
          have C0 := Lib.hid (fun m => cell_any tb cb n _ (x : Int) (y : Int) k0 (wq.drewN m) t0 t1 (by omega) (by omega) (by omega) E0.out L0.out hnb)
          by_cases hq : q1 = q0
          · have gq : ((q1 : Int) == (q0 : Int)) = true := by rw [hq]; simp
            have HR : Hid (P ++ pairsN (a.drop (x + 1)) (x + 1) (b.drop y) y = PP) := Lib.hid (by rw [← hE.out, S2.out hq])
            clear hq S2 S3 hE
            go_wp2_with fail
            go_quiet ((go_at_call 59; first | (with_reducible exact Calls.quiet_of (C1.out _)) | (with_reducible exact Calls.quiet_of (C0.out _))))
            have O4 : Hid (OwnP (wq.drewN nq) w2.heap.size (.slice oa P.length oc) P) := Lib.hid (own_below O3.out (fun _ _ _ => rfl))
            have W4 := Lib.hid (W3.out.trans (drewn w2.heap.size wq nq))
            clear d0 d1 t0 t1 C1 C0 hw1
            generalize wq.drewN nq = wz at *
            go_wp2_with fail
            go_roundw
            case rel => exact ⟨x + 1, y, P, by omega, by omega, by omega, by go_num, rfl, O4, HR, W4⟩
            case measure => simp [intOf]; omega
          · have gq : ((q1 : Int) == (q0 : Int)) = false := by rw [beq_eq_false_iff_ne]; omega
            have HR : Hid (P ++ pairsN (a.drop x) x (b.drop (y + 1)) (y + 1) = PP) := Lib.hid (by rw [← hE.out, S3.out hq])
            clear hq S2 S3 hE
            go_wp2_with fail
            go_quiet ((go_at_call 59; first | (with_reducible exact Calls.quiet_of (C1.out _)) | (with_reducible exact Calls.quiet_of (C0.out _))))
            have O4 : Hid (OwnP (wq.drewN nq) w2.heap.size (.slice oa P.length oc) P) := Lib.hid (own_below O3.out (fun _ _ _ => rfl))
            have W4 := Lib.hid (W3.out.trans (drewn w2.heap.size wq nq))
            clear d0 d1 t0 t1 C1 C0 hw1
            generalize wq.drewN nq = wz at *
            go_wp2_with fail
            go_roundw
            case rel => exact ⟨x, y + 1, P, by omega, by omega, by omega, rfl, by go_num, O4, HR, W4⟩
            case measure => simp [intOf]; omega
      · have HQ : Hid (P = PP) := Lib.hid (by
          have := hE.out
          rw [List.drop_eq_nil_of_le (show b.length ≤ y by omega), pairsN_none, List.append_nil] at this
          exact this)
        have hs2 := B2.out.size
        go_wp2_with fail
        go_ret
        exact ⟨_, rfl, own_base (by rw [← HQ.out]; exact hO.out) hs2, B2.out.trans (hW.out.mono hs2)⟩
    · have HQ : Hid (P = PP) := Lib.hid (by
        have := hE.out
        rw [List.drop_eq_nil_of_le (show a.length ≤ x by omega), pairsN_nil, List.append_nil] at this
        exact this)
      have hs2 := B2.out.size
      go_wp2_with fail
      go_ret
      exact ⟨_, rfl, own_base (by rw [← HQ.out]; exact hO.out) hs2, B2.out.trans (hW.out.mono hs2)⟩
end Go.Proofs.Ytfiogjdjcocbnaa
