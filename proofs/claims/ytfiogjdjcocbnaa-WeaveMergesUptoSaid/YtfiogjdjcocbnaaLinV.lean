/- The walk of the reference's Pairs. -/
import Derived.Test.YtfiogjdjcocbnaaLinU
namespace Go.Proofs.Ytfiogjdjcocbnaa
open Go.RowKit

def OwnK (w : World) (B : Nat) (v : Value) (P : List (Nat × Nat)) : Prop := w.ownsRow B 48 2 v P.length (p2 P)
def PairsK (S : Nat → Prop) (w : World) (v : Value) (P : List (Nat × Nat)) : Prop := CellsC S w v P.length 2 (p2 P)
theorem ownK_nil (w : World) (B : Nat) : OwnK w B (.slice none 0 0) [] := World.ownsRow_nil _ _ _ _
theorem ownK_push {w2 : World} {B : Nat} {v : Value} {P : List (Nat × Nat)} {x y : Nat} (h : w2.ownsRow B 48 2 v (P.length + 1) (p2 P ++ [.int .i64 (x : Int), .int .i64 (y : Int)])) : OwnK w2 B v (P ++ [(x, y)]) := by
  unfold OwnK
  rw [p2_append, List.length_append]; exact h
theorem ownK_slice {w : World} {B : Nat} {v : Value} {P : List (Nat × Nat)} (h : OwnK w B v P) : ∃ a cap, v = .slice a P.length cap := by
  rcases h.2 with ⟨e, hn⟩ | ⟨g, cap, cur, e, _⟩
  · rw [hn]; exact ⟨none, 0, e⟩
  · exact ⟨_, _, e⟩
theorem ownK_c {w : World} {B : Nat} {v : Value} {P : List (Nat × Nat)} (h : OwnK w B v P) : PairsK (fun k => B ≤ k ∧ k < w.heap.size) w v P := own_cells h (p2_one P)
theorem srcK_one (w : World) (x y : Int) : Src Try.prog 2 35 (.slice (some ⟨w.heap.size, 0, none⟩) 1 1) 1 [.int .i64 x, .int .i64 y] (w.alloc (.cells #[.int .i64 x, .int .i64 y] 48)) :=
  Src.ofSlice _ Try.underlying35 _ 1 1 _ rfl (fun j u hj => by
    rw [add_pos, Nat.zero_add, World.cell?_alloc_mark]; simpa using hj) (fun u hu => by
    simp at hu; rcases hu with rfl | rfl <;> rfl)
theorem Try.info48p : (Try.prog.info? 48).map (fun i => (i.zero, i.size, i.bytes)) = some (some (.agg #[.int .i64 0, .int .i64 0]), 2, 16) := by kernel_rfl
theorem walk_ref {a b : List (List UInt8)} {i j : Nat} (hi : i < a.length) (hj : j < b.length) :
    (a.getD i [] = b.getD j [] → pairsN (a.drop i) i (b.drop j) j = (i, j) :: pairsN (a.drop (i + 1)) (i + 1) (b.drop (j + 1)) (j + 1)) ∧
    (a.getD i [] ≠ b.getD j [] → lcs (a.drop (i + 1)) (b.drop j) = lcs (a.drop i) (b.drop j) → pairsN (a.drop i) i (b.drop j) j = pairsN (a.drop (i + 1)) (i + 1) (b.drop j) j) ∧
    (a.getD i [] ≠ b.getD j [] → lcs (a.drop (i + 1)) (b.drop j) ≠ lcs (a.drop i) (b.drop j) → pairsN (a.drop i) i (b.drop j) j = pairsN (a.drop i) i (b.drop (j + 1)) (j + 1)) := by
  rw [getD_at hi, getD_at hj]
  have ea := List.drop_eq_getElem_cons hi
  have eb := List.drop_eq_getElem_cons hj
  refine ⟨fun e => ?_, fun e h => ?_, fun e h => ?_⟩
  · rw [ea, eb, e, pairsN_same]
  · rw [ea, eb] at h ⊢
    rw [pairsN_down e h]
  · rw [ea, eb] at h ⊢
    rw [pairsN_right e h]
/-- What the reference's Pairs leaves. -/
def PairsKP (w : World) (P : List (Nat × Nat)) (e : Ending) (w' : World) : Prop := ∃ v, e = .returned (.tuple #[v, .int .i64 0]) ∧ OwnK w' w.heap.size v P ∧ Below w.heap.size w w'
set_option maxRecDepth 100000 in
set_option maxHeartbeats 8000000 in
theorem rpairs_any (S T : Nat → Prop) (va vb : Value) (a b : List (List UInt8)) (w : World) (hS : ∀ k, S k → k < w.heap.size) (hT : ∀ k, T k → k < w.heap.size) (ha : StrsC S w va a) (hb : StrsC T w vb b) (hal : a.length ≤ 4194304) (hbl : b.length ≤ 4194304)
    (hm : a.length * b.length ≤ 1048576) :
    Calls Try.prog 26 #[va, vb] w (PairsKP w (pairsN a 0 b 0)) := by
  obtain ⟨i0, hi, hz0, hz1, hz2⟩ := info_parts Try.info48p
  have HC := Lib.hid (long_any S T va vb a b w hS hT ha hb hal hbl)
  obtain ⟨aa, ac, rfl⟩ := ha.shape
  obtain ⟨ba, bc, rfl⟩ := hb.shape
  have HS := Lib.hid hS
  have HT := Lib.hid hT
  have HA := Lib.hid ha
  have HB := Lib.hid hb
  obtain ⟨pr, hpr⟩ : ∃ pr : Int, (a.length : Int) * (b.length : Int) = pr := ⟨_, rfl⟩
  have hpn : ((a.length * b.length : Nat) : Int) = pr := by rw [← hpr]; exact Int.natCast_mul _ _
  have hpr2 : pr ≤ 1048576 := by generalize a.length * b.length = pn at *; omega
  have hpr1 : 0 ≤ pr := by generalize a.length * b.length = pn at *; omega
  have hprw : IntKind.i64.wrap pr = pr := IntWalk.i64_in _ (by omega)
  obtain ⟨PP, hPP⟩ : ∃ PP, pairsN a 0 b 0 = PP := ⟨_, rfl⟩
  rw [hPP]
  have HPP := Lib.hid hPP
  clear hS hT ha hb hm hPP hpn
  go_enter Try.func26, Try.ntmps26
  go_wp2_with fail
  refine HC.out.mono ?_
  rintro e w2 ⟨X, bl, g, rfl, hG2, hTo2, hB2⟩
  have G2 := Lib.hid hG2
  have TO := Lib.hid hTo2
  have B2 := Lib.hid hB2
  clear hG2 hTo2 hB2 hpr hprw hpr1 hpr2
  go_wp2_with fail
  go_loopw [7, 8, 9] (fun v i j wr => ∃ (x y : Nat) (P : List (Nat × Nat)), x ≤ a.length ∧ y ≤ b.length ∧ P.length ≤ x ∧ i = .int .i64 x ∧ j = .int .i64 y ∧ Hid (OwnK wr w2.heap.size v P) ∧ Hid (P ++ pairsN (a.drop x) x (b.drop y) y = PP) ∧ Hid (Below w2.heap.size w2 wr)) (fun _ i j _ => (a.length - (intOf i).toNat) + (b.length - (intOf j).toNat))
  case atStart => exact ⟨0, 0, [], Nat.zero_le _, Nat.zero_le _, Nat.le_refl _, rfl, rfl, Lib.hid (ownK_nil _ _), Lib.hid HPP.out, Lib.hid (Below.refl _ _)⟩
  case round =>
    obtain ⟨x, y, P, hx, hy, hPx, rfl, rfl, hO, hE, hW⟩ := hrel
    obtain ⟨oa, oc, rfl⟩ := ownK_slice hO.out
    by_cases hxa : x < a.length
    · by_cases hyb : y < b.length
      · obtain ⟨ga, o1, rfl, hSa, _, _, hca⟩ := HA.out.at (by omega)
        obtain ⟨gb, o2, rfl, hSb, _, _, hcb⟩ := HB.out.at (by omega)
        have hs2 := B2.out.size
        have BW := Lib.hid (B2.out.trans (hW.out.mono hs2))
        have c1 := (BW.out.cell (p := ⟨ga, o1 + x, none⟩) (HS.out _ hSa)).trans (hca x hxa)
        have c2 := (BW.out.cell (p := ⟨gb, o2 + y, none⟩) (HT.out _ hSb)).trans (hcb y hyb)
        have hsz := hW.out.size
        have G3 := G2.out.kept hW.out.block hsz
        have r0 := G3.row x (Nat.zero_le _) (by omega)
        have r1 := G3.row (x + 1) (Nat.zero_le _) (by omega)
        have d0 := G3.cs x y (Nat.zero_le _) (by omega) (by omega)
        have d1 := G3.cs (x + 1) y (Nat.zero_le _) (by omega) (by omega)
        rw [TO.out x y (by omega) (by omega) (by omega)] at d0
        rw [TO.out (x + 1) y (by omega) (by omega) (by omega)] at d1
        obtain ⟨hst1, hst2, hst3⟩ := walk_ref hxa hyb
        have ST1 := Lib.hid hst1
        have ST2 := Lib.hid hst2
        have ST3 := Lib.hid hst3
        clear hca hcb hst1 hst2 hst3 G3
        generalize lcs (a.drop (x + 1)) (b.drop y) = q1 at *
        generalize lcs (a.drop x) (b.drop y) = q0 at *
        by_cases he : a.getD x [] = b.getD y []
        · have ge : (a.getD x [] == b.getD y []) = true := by simpa using he
          have HR : Hid (P ++ [(x, y)] ++ pairsN (a.drop (x + 1)) (x + 1) (b.drop (y + 1)) (y + 1) = PP) := Lib.hid (by rw [← hE.out, ST1.out he]; simp)
          rw [he] at c1
          generalize b.getD y [] = ub at *
          clear he ge ST1 ST2 ST3 hE r0 r1 d0 d1
          go_wp2_with fail
          go_quiet (fail)
          have O3 : Hid (OwnK (wr.drewN nq) w2.heap.size (.slice oa P.length oc) P) := Lib.hid (own_below hO.out (fun _ _ _ => rfl))
          have W3 := Lib.hid (hW.out.trans (drewn w2.heap.size wr nq))
          have hsz3 : w2.heap.size ≤ (wr.drewN nq).heap.size := hsz
          clear c1 c2 hO hW
          generalize wr.drewN nq = wq at *
          go_wp2_with (at_builtin; refine wpList_own_src _ rfl _ _ 35 35 rfl w2.heap.size 48 i0 (.agg #[.int .i64 0, .int .i64 0]) 2 16 Try.underlying35 hi hz0 hz1 hz2 rfl (by decide) _ _ _ rfl (World.ownsRow.alloc O3.out _) _ 1 [.int .i64 (x : Int), .int .i64 (y : Int)] rfl (srcK_one _ _ _) (by unfold maxLen; omega) (by omega) (by simp; omega) ?_)
          intro v5 w5 hown5 hg5
          have O5 : Hid (OwnK w5 w2.heap.size v5 (P ++ [(x, y)])) := Lib.hid (ownK_push hown5)
          have W5 : Hid (Below w2.heap.size w2 w5) := Lib.hid ((W3.out.alloc W3.out.size _).grown hg5.gb (by simp; omega) (fun j hj => (World.ownsRow.lt O3.out j hj).1))
          clear hown5 hg5
          go_wp2_with fail
          go_roundw
          case rel => exact ⟨x + 1, y + 1, P ++ [(x, y)], by omega, by omega, by simp; omega, by go_num, by go_num, O5, HR, W5⟩
          case measure => simp [intOf]; omega
        · have ge : (a.getD x [] == b.getD y []) = false := by simpa using he
          have S2 := Lib.hid (ST2.out he)
          have S3 := Lib.hid (ST3.out he)
          generalize a.getD x [] = ua at *
          generalize b.getD y [] = ub at *
          clear he ST1 ST2 ST3
          go_wp2_with fail
          go_quiet (fail)
          have O3 : Hid (OwnK (wr.drewN nq) w2.heap.size (.slice oa P.length oc) P) := Lib.hid (own_below hO.out (fun _ _ _ => rfl))
          have W3 := Lib.hid (hW.out.trans (drewn w2.heap.size wr nq))
          have r0' := (show (wr.drewN nq).cell? ⟨X, x, none⟩ = some (.slice (some ⟨bl x, 0, none⟩) (b.length + 1) (b.length + 1)) from r0)
          have r1' := (show (wr.drewN nq).cell? ⟨X, x + 1, none⟩ = some (.slice (some ⟨bl (x + 1), 0, none⟩) (b.length + 1) (b.length + 1)) from r1)
          have d0' := (show (wr.drewN nq).cell? ⟨bl x, y, none⟩ = some (.int .i64 (q0 : Nat)) from d0)
          have d1' := (show (wr.drewN nq).cell? ⟨bl (x + 1), y, none⟩ = some (.int .i64 (q1 : Nat)) from d1)
          clear c1 c2 hO hW r0 r1 d0 d1 ge
          generalize wr.drewN nq = wq at *
          by_cases hq : q1 = q0
          · have gq : ((q1 : Int) == (q0 : Int)) = true := by rw [hq]; simp
            have HR : Hid (P ++ pairsN (a.drop (x + 1)) (x + 1) (b.drop y) y = PP) := Lib.hid (by rw [← hE.out, S2.out hq])
            clear hq S2 S3 hE
            go_wp2_with fail
            go_quiet (fail)
            have O4 : Hid (OwnK (wq.drewN nq) w2.heap.size (.slice oa P.length oc) P) := Lib.hid (own_below O3.out (fun _ _ _ => rfl))
            have W4 := Lib.hid (W3.out.trans (drewn w2.heap.size wq nq))
            clear r0' r1' d0' d1'
            generalize wq.drewN nq = wz at *
            go_wp2_with fail
            go_roundw
            case rel => exact ⟨x + 1, y, P, by omega, by omega, by omega, by go_num, rfl, O4, HR, W4⟩
            case measure => simp [intOf]; omega
          · have gq : ((q1 : Int) == (q0 : Int)) = false := by rw [beq_eq_false_iff_ne]; omega
            have HR : Hid (P ++ pairsN (a.drop x) x (b.drop (y + 1)) (y + 1) = PP) := Lib.hid (by rw [← hE.out, S3.out hq])
            clear hq S2 S3 hE
            go_wp2_with fail
            go_quiet (fail)
            have O4 : Hid (OwnK (wq.drewN nq) w2.heap.size (.slice oa P.length oc) P) := Lib.hid (own_below O3.out (fun _ _ _ => rfl))
            have W4 := Lib.hid (W3.out.trans (drewn w2.heap.size wq nq))
            clear r0' r1' d0' d1'
            generalize wq.drewN nq = wz at *
            go_wp2_with fail
            go_roundw
            case rel => exact ⟨x, y + 1, P, by omega, by omega, by omega, rfl, by go_num, O4, HR, W4⟩
            case measure => simp [intOf]; omega
      · have HQ : Hid (P = PP) := Lib.hid (by
          have := hE.out
          rw [List.drop_eq_nil_of_le (show b.length ≤ y by omega), pairsN_none, List.append_nil] at this
          exact this)
        have hs2 := B2.out.size
        go_wp2_with fail
        go_ret2
        exact ⟨_, rfl, own_base (by rw [← HQ.out]; exact hO.out) hs2, B2.out.trans (hW.out.mono hs2)⟩
    · have HQ : Hid (P = PP) := Lib.hid (by
        have := hE.out
        rw [List.drop_eq_nil_of_le (show a.length ≤ x by omega), pairsN_nil, List.append_nil] at this
        exact this)
      have hs2 := B2.out.size
      go_wp2_with fail
      go_ret2
      exact ⟨_, rfl, own_base (by rw [← HQ.out]; exact hO.out) hs2, B2.out.trans (hW.out.mono hs2)⟩
set_option maxRecDepth 100000 in
set_option maxHeartbeats 4000000 in
theorem rpairs_long (S T : Nat → Prop) (va vb : Value) (a b : List (List UInt8)) (w : World) (ha : StrsC S w va a) (hb : StrsC T w vb b) (hal : a.length ≤ 4194304) (hbl : b.length ≤ 4194304) (hm : 1048576 < a.length * b.length) :
    Calls Try.prog 26 #[va, vb] w fun e w' => e = .returned (.tuple #[.slice none 0 0, .int .i64 2]) ∧ w = w' := by
  obtain ⟨aa, ac, rfl⟩ := ha.shape
  obtain ⟨ba, bc, rfl⟩ := hb.shape
  obtain ⟨pr, hpr⟩ : ∃ pr : Int, (a.length : Int) * (b.length : Int) = pr := ⟨_, rfl⟩
  have hpn : ((a.length * b.length : Nat) : Int) = pr := by rw [← hpr]; exact Int.natCast_mul _ _
  have hpr2 : 1048576 < pr := by generalize a.length * b.length = pn at *; omega
  have hpr1 : pr ≤ 17592186044416 := by
    have := Nat.mul_le_mul hal hbl
    generalize a.length * b.length = pn at *; omega
  have hprw : IntKind.i64.wrap pr = pr := IntWalk.i64_in _ (by omega)
  clear ha hb hm hpn
  go_enter Try.func26, Try.ntmps26
  go_wp2_with fail
  go_ret2
  exact ⟨rfl, rfl⟩
end Go.Proofs.Ytfiogjdjcocbnaa
