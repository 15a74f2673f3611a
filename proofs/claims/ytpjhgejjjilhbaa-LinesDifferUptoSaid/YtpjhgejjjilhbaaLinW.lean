/- The walk of the reference's Diff. -/
import Derived.Test.YtpjhgejjjilhbaaLinV
import Derived.Test.YtpjhgejjjilhbaaLinT
import Derived.BigRegion
namespace Go.Proofs.Ytpjhgejjjilhbaa
open Go.RowKit
attribute [local go_sem ↓] Go.wp_at_zero Go.wp_at_succ

theorem ownK_empty (w : World) : OwnK (w.alloc (.cells #[] 48)) w.heap.size (.slice (some ⟨w.heap.size, 0, none⟩) 0 0) [] :=
  ⟨rfl, Or.inr ⟨w.heap.size, 0, #[], rfl, Nat.le_refl _, new_five w _ _, Nat.le_refl _, Nat.zero_le _, rfl, rfl⟩⟩
theorem ownK_more {w2 : World} {B n : Nat} {v : Value} {P Q : List (Nat × Nat)} (hn : n = P.length + Q.length) (h : w2.ownsRow B 48 2 v n (p2 P ++ p2 Q)) : OwnK w2 B v (P ++ Q) := by
  unfold OwnK
  rw [p2_append, List.length_append, ← hn]; exact h
theorem srcK_of {S : Nat → Prop} {w : World} {v : Value} {P : List (Nat × Nat)} (h : PairsK S w v P) : Src Try.prog 2 35 v P.length (p2 P) w := CellsC.src h Try.underlying35
/-- What the reference's Diff leaves. -/
def HunksKP (w : World) (hs : List (HunkN (List UInt8))) (e : Ending) (w' : World) : Prop := ∃ v, e = .returned (.tuple #[v, .int .i64 0]) ∧ HunksC (fun k => k < w'.heap.size) w' v hs ∧ Below w.heap.size w w'
set_option maxRecDepth 100000 in
set_option maxHeartbeats 8000000 in
theorem rdiff_any (S T : Nat → Prop) (va vb : Value) (a b : List (List UInt8)) (w : World) (hS : ∀ k, S k → k < w.heap.size) (hT : ∀ k, T k → k < w.heap.size) (ha : StrsC S w va a) (hb : StrsC T w vb b) (hal : a.length ≤ 4194304) (hbl : b.length ≤ 4194304)
    (hm : a.length * b.length ≤ 1048576) :
    Calls Try.prog 28 #[va, vb] w (HunksKP w (diffN a b)) := by
  obtain ⟨i0, hi, hz0, hz1, hz2⟩ := info_parts Try.info48p
  obtain ⟨j0, hj, hy0, hy1, hy2⟩ := info_parts Try.info91r
  have HC := Lib.hid (rpairs_any S T va vb a b w hS hT ha hb hal hbl hm)
  obtain ⟨aa, ac, rfl⟩ := ha.shape
  obtain ⟨ba, bc, rfl⟩ := hb.shape
  have HS := Lib.hid hS
  have HT := Lib.hid hT
  have HA := Lib.hid ha
  have HB := Lib.hid hb
  have hpl : (pairsN a 0 b 0).length ≤ 4194304 := by rw [pairsN_len]; have := (lcs_len a b).1; omega
  have HST := Lib.hid (steps_ok (Nat.zero_le _) (Nat.zero_le _) (pairs_ok a b))
  obtain ⟨D, hD⟩ : ∃ D, diffN a b = D := ⟨_, rfl⟩
  rw [hD]
  have HD : Hid (hunksN a b 0 0 (pairsN a 0 b 0 ++ [(a.length, b.length)]) = D) := Lib.hid hD
  obtain ⟨P, hP⟩ : ∃ P, pairsN a 0 b 0 = P := ⟨_, rfl⟩
  rw [hP] at HC hpl HST HD
  clear hS hT ha hb hm hD hP
  go_enter Try.func28, Try.ntmps28
  go_wp2_with fail
  refine HC.out.mono ?_
  rintro e w1 ⟨v, rfl, ho1, hb1⟩
  have O1 := Lib.hid (ownK_c ho1)
  have B1 := Lib.hid hb1
  have hs1 := hb1.size
  obtain ⟨pa, pc, rfl⟩ := ownK_slice ho1
  have HE0 := Lib.hid (ownK_empty w1)
  have SRC1 : Hid (Src Try.prog 2 35 (.slice pa P.length pc) P.length (p2 P) (w1.alloc (.cells #[] 48))) := Lib.hid (srcK_of (O1.out.kept (S' := fun _ => True) (fun q hq => ⟨trivial, Below.heap_alloc _ _ _ hq.2⟩)))
  clear ho1 hb1
  go_upto_region 5 with (at_builtin; refine wpList_own_src _ rfl _ _ 35 35 rfl w1.heap.size 48 i0 (.agg #[.int .i64 0, .int .i64 0]) 2 16 Try.underlying35 hi hz0 hz1 hz2 rfl (by decide) _ _ _ rfl HE0.out _ P.length (p2 P) rfl SRC1.out (by unfold maxLen; simp; omega) (by simp; omega) (by simp) ?_; intro v2 w2 hown2 hg2)
  have O2 : Hid (OwnK w2 w1.heap.size v2 P) := Lib.hid (ownK_more (P := []) (by simp) hown2)
  have B2 : Hid (Below w1.heap.size w1 w2) := Lib.hid (((Below.refl w1.heap.size w1).alloc (Nat.le_refl _) _).grown hg2.gb (by simp) (fun q hq => (World.ownsRow.lt HE0.out q hq).1))
  obtain ⟨a2, c2, rfl⟩ := ownK_slice O2.out
  have hs2 := B2.out.size
  clear hown2 hg2 HE0 SRC1 O1
  go_wp2_with (at_builtin; refine wpList_own_src _ rfl _ _ 35 35 rfl w1.heap.size 48 i0 (.agg #[.int .i64 0, .int .i64 0]) 2 16 Try.underlying35 hi hz0 hz1 hz2 rfl (by decide) _ _ _ rfl (World.ownsRow.alloc O2.out _) _ 1 [.int .i64 (a.length : Int), .int .i64 (b.length : Int)] rfl (srcK_one _ _ _) (by unfold maxLen; omega) (by omega) (by simp; omega) ?_)
  intro v3 w3 hown3 hg3
  have O3 : Hid (OwnK w3 w1.heap.size v3 (P ++ [(a.length, b.length)])) := Lib.hid (ownK_push hown3)
  have B3 : Hid (Below w.heap.size w w3) := Lib.hid (B1.out.trans (((B2.out.alloc hs2 _).grown hg3.gb (by simp; omega) (fun j hj => (World.ownsRow.lt O2.out j hj).1)).mono hs1))
  have hql : (P ++ [(a.length, b.length)]).length ≤ 4194305 := by simp; omega
  clear hown3 hg3 O2 B1 B2
  generalize P ++ [(a.length, b.length)] = Q at *
  obtain ⟨qa, qc, rfl⟩ := ownK_slice O3.out
  have hs3 := B3.out.size
  go_wp2_with fail
  go_loopw [9, 10, 11, 12] (fun h i j n wr => ∃ (x y k : Nat) (css : List (List Value)) (hs : List (HunkN (List UInt8))), k ≤ Q.length ∧ n = .int .i64 k ∧ i = .int .i64 x ∧ j = .int .i64 y ∧ x ≤ 4194305 ∧ y ≤ 4194305 ∧ hs.length ≤ k ∧ Hid (StepsOk a.length b.length x y (Q.drop k)) ∧ Hid (hs ++ hunksN a b x y (Q.drop k) = D) ∧ Hid (OwnR hunkRel 91 3 (fun _ => True) wr w3.heap.size h css hs) ∧ Hid (Below w3.heap.size w3 wr)) (fun _ _ _ n _ => Q.length - (intOf n).toNat)
  case atStart => exact ⟨0, 0, 0, [], [], Nat.zero_le _, rfl, rfl, rfl, by omega, by omega, Nat.le_refl _, HST, HD, Lib.hid (OwnR.nil _ _ _ _ _ _), Lib.hid (Below.refl _ _)⟩
  case round =>
    obtain ⟨x, y, k, css, hs, hk, rfl, rfl, rfl, hx, hy, hhk, hSt, hE, hO, hW⟩ := hrel
    obtain ⟨hva, hvc, rfl⟩ := ownR_slice hO.out
    by_cases hlt : k < Q.length
    · obtain ⟨g, o, rfl, hSg, _, _, hcq⟩ := (ownK_c O3.out).at (by omega)
      have hsz := hW.out.size
      have hd : Q.drop k = Q.getD k (0, 0) :: Q.drop (k + 1) := by rw [List.drop_eq_getElem_cons hlt, getD_at hlt]
      obtain ⟨q1, q2⟩ := p2_at Q k hlt
      have c1 := (hW.out.cell (p := ⟨g, o + k * 2, none⟩) hSg.2).trans (hcq _ _ q1)
      have c2 := (hW.out.cell (p := ⟨g, o + k * 2 + 1, none⟩) hSg.2).trans (hcq _ _ q2)
      have HSt := hSt.out
      have HEt := hE.out
      rw [hd] at HSt HEt
      generalize Q.getD k (0, 0) = p at *
      obtain ⟨p0, p1⟩ := p
      obtain ⟨s1, s2, s3, s4, s5⟩ := HSt
      have SN := Lib.hid s5
      simp only at s1 s2 s3 s4 c1 c2 q1 q2
      have HEQ := Lib.hid HEt
      have E1 := Lib.hid (hcq _ _ q1)
      have E2 := Lib.hid (hcq _ _ q2)
      clear hd HEt hSt hE s5 hcq q1 q2
      have hca : ((a.drop x).take (p0 - x)).length = p0 - x := by simp; omega
      have hcb : ((b.drop y).take (p1 - y)).length = p1 - y := by simp; omega
      obtain ⟨a1, c1', hra, hsa⟩ := HA.out.cut s1 s2
      obtain ⟨a2, c2', hrb, hsb⟩ := HB.out.cut s3 s4
      have HSA := Lib.hid hsa
      have HSB := Lib.hid hsb
      have HCA := Lib.hid hca
      have HCB := Lib.hid hcb
      have HYes : Hid (x < p0 ∨ y < p1 → hunksN a b x y ((p0, p1) :: Q.drop (k + 1)) = ⟨(x : Int), (a.drop x).take (p0 - x), (b.drop y).take (p1 - y)⟩ :: hunksN a b (p0 + 1) (p1 + 1) (Q.drop (k + 1))) := Lib.hid (fun h => hunksN_yes _ h)
      have HNo : Hid (¬ (x < p0 ∨ y < p1) → hunksN a b x y ((p0, p1) :: Q.drop (k + 1)) = hunksN a b (p0 + 1) (p1 + 1) (Q.drop (k + 1))) := Lib.hid (fun h => hunksN_no _ h)
      have HCAL : Hid (((a.drop x).take (p0 - x)).length ≤ 4194304) := Lib.hid (by omega)
      have HCBL : Hid (((b.drop y).take (p1 - y)).length ≤ 4194304) := Lib.hid (by omega)
      clear hca hcb hsa hsb
      generalize (a.drop x).take (p0 - x) = ca at *
      generalize (b.drop y).take (p1 - y) = cb at *
      have W2 : Hid (Below w3.heap.size w3 (wr.alloc (.cells #[.int .i64 (x : Int), .slice a1 ca.length c1', .slice a2 cb.length c2'] 91))) := Lib.hid (hW.out.alloc hsz _)
      have HBX := Lib.hid (new_five wr #[.int .i64 (x : Int), .slice a1 ca.length c1', .slice a2 cb.length c2'] 91)
      have HK2 : Hid (∀ q, q < wr.heap.size → (wr.alloc (.cells #[.int .i64 (x : Int), .slice a1 ca.length c1', .slice a2 cb.length c2'] 91)).heap[q]? = wr.heap[q]?) := Lib.hid (fun q hq => Below.heap_alloc _ _ _ hq)
      have hlt2 : wr.heap.size < (wr.alloc (.cells #[.int .i64 (x : Int), .slice a1 ca.length c1', .slice a2 cb.length c2'] 91)).heap.size := by simp
      have hgw : g < wr.heap.size := by have := hSg.2; omega
      have d1 : (wr.alloc (.cells #[.int .i64 0, .slice none 0 0, .slice none 0 0] 91)).cell? ⟨g, o + k * 2, none⟩ = some (.int .i64 (p0 : Int)) := (World.cell?_of_block (w := wr) (Below.heap_alloc _ _ _ hgw)).trans c1
      have d2 : (wr.alloc (.cells #[.int .i64 0, .slice none 0 0, .slice none 0 0] 91)).cell? ⟨g, o + k * 2 + 1, none⟩ = some (.int .i64 (p1 : Int)) := (World.cell?_of_block (w := wr) (Below.heap_alloc _ _ _ hgw)).trans c2
      go_upto_region 11 with fail
      go_region
      change Exit.then _ _ Exit.normal _ ((wr.alloc (.cells #[.int .i64 (x : Int), .slice a1 ca.length c1', .slice a2 cb.length c2'] 91)).drewN 1)
      obtain ⟨b0, b1, b2⟩ := box3 HBX.out rfl
      replace b0 : ((wr.alloc (.cells #[.int .i64 (x : Int), .slice a1 ca.length c1', .slice a2 cb.length c2'] 91)).drewN 1).cell? ⟨wr.heap.size, 0, none⟩ = some (.int .i64 (x : Int)) := b0
      replace b1 : ((wr.alloc (.cells #[.int .i64 (x : Int), .slice a1 ca.length c1', .slice a2 cb.length c2'] 91)).drewN 1).cell? ⟨wr.heap.size, 1, none⟩ = some (.slice a1 ca.length c1') := b1
      replace b2 : ((wr.alloc (.cells #[.int .i64 (x : Int), .slice a1 ca.length c1', .slice a2 cb.length c2'] 91)).drewN 1).cell? ⟨wr.heap.size, 2, none⟩ = some (.slice a2 cb.length c2') := b2
      have W3 : Hid (Below w3.heap.size w3 ((wr.alloc (.cells #[.int .i64 (x : Int), .slice a1 ca.length c1', .slice a2 cb.length c2'] 91)).drewN 1)) := Lib.hid (W2.out.trans (drewn _ _ 1))
      have O4 : Hid (OwnR hunkRel 91 3 (fun _ => True) ((wr.alloc (.cells #[.int .i64 (x : Int), .slice a1 ca.length c1', .slice a2 cb.length c2'] 91)).drewN 1) w3.heap.size (.slice hva hs.length hvc) css hs) := Lib.hid (OwnR_drewN hunk_keeps (OwnR_alloc hunk_keeps hO.out _) 1)
      have hlt3 : wr.heap.size < ((wr.alloc (.cells #[.int .i64 (x : Int), .slice a1 ca.length c1', .slice a2 cb.length c2'] 91)).drewN 1).heap.size := hlt2
      have C1 : Hid (w3.cell? ⟨g, o + k * 2, none⟩ = some (.int .i64 (p0 : Int))) := Lib.hid E1.out
      have C2 : Hid (w3.cell? ⟨g, o + k * 2 + 1, none⟩ = some (.int .i64 (p1 : Int))) := Lib.hid E2.out
      clear hra hrb c1 c2 d1 d2 hlt2 HBX HK2 hO hW W2 hgw
      generalize (wr.alloc (.cells #[.int .i64 (x : Int), .slice a1 ca.length c1', .slice a2 cb.length c2'] 91)).drewN 1 = wp at *
      have hszp := W3.out.size
      have hcal := HCAL.out
      have hcbl := HCBL.out
      by_cases hch : x < p0 ∨ y < p1
      · have hpos : 0 < ca.length + cb.length := by rw [HCA.out, HCB.out]; omega
        have HN := Lib.hid (HEQ.out ▸ (congrArg (hs ++ ·) (HYes.out hch)).symm)
        clear HEQ HYes HNo hch
        go_wp2_with (at_builtin; refine wpList_own_src _ rfl _ _ 41 41 rfl w3.heap.size 91 j0 (.agg #[.int .i64 0, .slice none 0 0, .slice none 0 0]) 3 56 Try.underlying41 hj hy0 hy1 hy2 rfl (by decide) _ _ _ rfl (World.ownsRow.alloc O4.out.own _) _ 1 [.int .i64 (x : Int), .slice a1 ca.length c1', .slice a2 cb.length c2'] rfl (srcR_one _ _ _ _ _ _ _ _) (by unfold maxLen; omega) (by omega) (by simp; omega) ?_)
        intro v5 w5 hown5 hg5
        have B5 : Hid (Below w3.heap.size w3 w5) := Lib.hid ((W3.out.alloc hszp _).grown hg5.gb (by simp; omega) (fun q hq => (World.ownsRow.lt O4.out.own q hq).1))
        have O5 := Lib.hid (O4.out.push hunk_keeps (fun q hq _ => Below.heap_alloc _ _ _ hq) (by simp) hg5 rfl (fun u hu => by simp at hu; rcases hu with rfl | rfl | rfl <;> rfl) hown5 (e := ⟨(x : Int), ca, cb⟩) ⟨_, _, rfl, HSA.out.kept (fun q hq => by
            have h1 := HS.out q hq
            have h2 := B3.out.size
            exact ⟨⟨trivial, by simp; omega, fun e => by have := (World.ownsRow.lt O4.out.own q e).1; omega⟩, (Below.heap_alloc _ _ _ (by omega)).trans ((W3.out.block q (by omega)).trans (B3.out.block q h1))⟩), HSB.out.kept (fun q hq => by
            have h1 := HT.out q hq
            have h2 := B3.out.size
            exact ⟨⟨trivial, by simp; omega, fun e => by have := (World.ownsRow.lt O4.out.own q e).1; omega⟩, (Below.heap_alloc _ _ _ (by omega)).trans ((W3.out.block q (by omega)).trans (B3.out.block q h1))⟩)⟩)
        have z1 := (B5.out.cell (p := ⟨g, o + k * 2, none⟩) hSg.2).trans C1.out
        have z2 := (B5.out.cell (p := ⟨g, o + k * 2 + 1, none⟩) hSg.2).trans C2.out
        clear hown5 hg5 b0 b1 b2
        go_wp2_with fail
        go_roundw
        case rel => exact ⟨p0 + 1, p1 + 1, k + 1, _, hs ++ [⟨(x : Int), ca, cb⟩], by omega, by go_num, by go_num, by go_num, by omega, by omega, by simp; omega, SN, Lib.hid (by rw [List.append_assoc]; exact HN.out), O5, B5⟩
        case measure => simp [intOf]; omega
      · have hpos1 : ca.length = 0 := by rw [HCA.out]; omega
        have hpos2 : cb.length = 0 := by rw [HCB.out]; omega
        have HN := Lib.hid (HEQ.out ▸ (congrArg (hs ++ ·) (HNo.out hch)).symm)
        have z1 := (W3.out.cell (p := ⟨g, o + k * 2, none⟩) hSg.2).trans C1.out
        have z2 := (W3.out.cell (p := ⟨g, o + k * 2 + 1, none⟩) hSg.2).trans C2.out
        clear HEQ HYes HNo hch
        go_wp2_with fail
        go_roundw
        case rel => exact ⟨p0 + 1, p1 + 1, k + 1, _, hs, by omega, by go_num, by go_num, by go_num, by omega, by omega, by omega, SN, HN, O4, W3⟩
        case measure => simp [intOf]; omega
    · have HQ : Hid (hs = D) := Lib.hid (by
        have := hE.out
        rw [List.drop_eq_nil_of_le (show Q.length ≤ k by omega)] at this
        simpa [hunksN] using this)
      go_wp2_with fail
      go_ret2
      refine ⟨_, rfl, ?_, B3.out.trans (hW.out.mono hs3)⟩
      have := (hO.out.rows hunk_keeps).kept hunk_keeps (S' := fun k => k < wr.heap.size) (w' := wr) (fun q hq => ⟨hq.2, rfl⟩)
      rw [← HQ.out]; exact this
set_option maxRecDepth 100000 in
set_option maxHeartbeats 4000000 in
theorem rdiff_long (S T : Nat → Prop) (va vb : Value) (a b : List (List UInt8)) (w : World) (ha : StrsC S w va a) (hb : StrsC T w vb b) (hal : a.length ≤ 4194304) (hbl : b.length ≤ 4194304) (hm : 1048576 < a.length * b.length) :
    Calls Try.prog 28 #[va, vb] w fun e w' => e = .returned (.tuple #[.slice none 0 0, .int .i64 2]) ∧ w = w' := by
  have HC := Lib.hid (rpairs_long S T va vb a b w ha hb hal hbl hm)
  obtain ⟨aa, ac, rfl⟩ := ha.shape
  obtain ⟨ba, bc, rfl⟩ := hb.shape
  clear ha hb hm
  go_enter Try.func28, Try.ntmps28
  go_wp2_with fail
  refine HC.out.mono ?_
  rintro e w2 ⟨rfl, rfl⟩
  go_wp2_with fail
  go_ret2
  exact ⟨rfl, rfl⟩
end Go.Proofs.Ytpjhgejjjilhbaa
