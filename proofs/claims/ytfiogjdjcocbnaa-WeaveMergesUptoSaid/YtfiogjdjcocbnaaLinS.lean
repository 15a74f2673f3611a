/- The walk of the law LinesLongest. -/
import Derived.Test.YtfiogjdjcocbnaaLinQ
namespace Go.Proofs.Ytfiogjdjcocbnaa
open Go.RowKit

def bvs (l : List Bool) : List Value := l.map Value.bool
def BoolsC (S : Nat → Prop) (w : World) (v : Value) (l : List Bool) : Prop := CellsC S w v l.length 1 (bvs l)
theorem BoolsC.shape {S : Nat → Prop} {w : World} {v : Value} {l : List Bool} (h : BoolsC S w v l) : ∃ a c, v = .slice a l.length c := CellsC.shape h
theorem BoolsC.kept {S S' : Nat → Prop} {w w' : World} {v : Value} {l : List Bool} (h : BoolsC S w v l) (hk : ∀ k, S k → S' k ∧ w'.heap[k]? = w.heap[k]?) : BoolsC S' w' v l := CellsC.kept h hk
theorem BoolsC.at {S : Nat → Prop} {w : World} {a : Option Addr} {c : Nat} {l : List Bool} (h : BoolsC S w (.slice a l.length c) l) (hl : 0 < l.length) : ∃ g o, a = some ⟨g, o, none⟩ ∧ S g ∧ l.length ≤ c ∧ c ≤ 9223372036854775807 ∧ ∀ i, i < l.length → w.cell? ⟨g, o + i, none⟩ = some (.bool (l.getD i false)) := by
  obtain ⟨g, o, h1, h2, h3, h4, h5⟩ := CellsC.at h hl
  exact ⟨g, o, h1, h2, h3, h4, fun i hi => h5 i _ (by unfold bvs; simp [List.getD, List.getElem?_eq_getElem hi])⟩
/-- So many lines have been found one behind the other. -/
def Found (a b : List (List UInt8)) (i q n : Nat) : Prop := ∃ s : List (List UInt8), s.length = n ∧ s.Sublist (a.take i) ∧ s.Sublist (b.take q)
theorem Found.on {a b : List (List UInt8)} {i q n i' q' : Nat} (h : Found a b i q n) (hi : i ≤ i') (hq : q ≤ q') : Found a b i' q' n := by
  obtain ⟨s, h1, h2, h3⟩ := h
  have e : ∀ (l : List (List UInt8)) {x y : Nat}, x ≤ y → (l.take x).Sublist (l.take y) := fun l x y hxy => by
    have : l.take x = (l.take y).take x := by rw [List.take_take, Nat.min_eq_left hxy]
    rw [this]; exact List.take_sublist _ _
  exact ⟨s, h1, h2.trans (e a hi), h3.trans (e b hq)⟩
theorem Found.more {a b : List (List UInt8)} {i q n : Nat} (h : Found a b i q n) (hi : i < a.length) (hq : q < b.length) (e : b.getD q [] = a.getD i []) : Found a b (i + 1) (q + 1) (n + 1) := by
  obtain ⟨s, h1, h2, h3⟩ := h
  refine ⟨s ++ [a.getD i []], by simp [h1], ?_, ?_⟩
  · rw [take_snoc (d := []) hi]; exact h2.append (List.Sublist.refl _)
  · rw [take_snoc (d := []) hq, e]; exact h3.append (List.Sublist.refl _)
set_option maxRecDepth 100000 in
set_option maxHeartbeats 8000000 in
theorem llong_law (S T R : Nat → Prop) (va vb vc : Value) (a b : List (List UInt8)) (ch : List Bool) (w : World) (hS : ∀ k, S k → k < w.heap.size) (hT : ∀ k, T k → k < w.heap.size) (hR : ∀ k, R k → k < w.heap.size) (ha : StrsC S w va a) (hb : StrsC T w vb b) (hc : BoolsC R w vc ch) (hsa : sumL a ≤ 1048576) (hsb : sumL b ≤ 1048576) (hch : ch.length ≤ 1048576) :
    Calls Try.prog 7 #[va, vb, vc] w (TrueP w) := by
  unfold TrueP
  obtain ⟨hal, hax⟩ := sum_bounds hsa
  obtain ⟨hbl, hbx⟩ := sum_bounds hsb
  obtain ⟨aa, ac, rfl⟩ := ha.shape
  obtain ⟨ba, bc, rfl⟩ := hb.shape
  obtain ⟨ca, cc, rfl⟩ := hc.shape
  have HS := Lib.hid hS
  have HT := Lib.hid hT
  have HR := Lib.hid hR
  have HA := Lib.hid (fun (W : World) (hb : ∀ k, k < w.heap.size → W.heap[k]? = w.heap[k]?) => ha.kept (S' := S) (w' := W) (fun k hk => ⟨hk, hb k (hS k hk)⟩))
  have HB := Lib.hid (fun (W : World) (hc : ∀ k, k < w.heap.size → W.heap[k]? = w.heap[k]?) => hb.kept (S' := T) (w' := W) (fun k hk => ⟨hk, hc k (hT k hk)⟩))
  have HC := Lib.hid (fun (W : World) (hd : ∀ k, k < w.heap.size → W.heap[k]? = w.heap[k]?) => hc.kept (S' := R) (w' := W) (fun k hk => ⟨hk, hd k (hR k hk)⟩))
  have HAX := Lib.hid hax
  have HBX := Lib.hid hbx
  clear hS hT hR ha hb hc hsa hsb hax hbx
  go_enter Try.func7, Try.ntmps7
  go_wp2_with fail
  refine (awake7_any _).mono ?_
  rintro e w1 ⟨rfl, hb1⟩
  have B1 := Lib.hid hb1
  have hs1 := hb1.size
  clear hb1
  by_cases hm : a.length * b.length ≤ 1048576
  · have HP := Lib.hid (pairs_any S T (.slice aa a.length ac) (.slice ba b.length bc) a b w1 (fun k hk => by have := HS.out k hk; omega) (fun k hk => by have := HT.out k hk; omega) (HA.out _ B1.out.block) (HB.out _ B1.out.block) (by omega) (by omega) HAX.out HBX.out hm)
    have HQ : Hid (∀ W : World, (∀ k, k < w.heap.size → W.heap[k]? = w.heap[k]?) → w.heap.size ≤ W.heap.size → Calls Try.prog 25 #[.slice ba b.length bc, .slice aa a.length ac] W fun e w' => ∃ v, e = .returned (.tuple #[v, .int .i64 0]) ∧ OwnP w' W.heap.size v (pairsN b 0 a 0) ∧ Below W.heap.size W w') := Lib.hid (fun W h1 h2 => pairs_any T S _ _ b a W (fun k hk => Nat.lt_of_lt_of_le (HT.out k hk) h2) (fun k hk => Nat.lt_of_lt_of_le (HS.out k hk) h2) (HB.out _ h1) (HA.out _ h1) (by omega) (by omega) HBX.out HAX.out (by rw [Nat.mul_comm]; exact hm))
    have hpl := pairsN_len a b 0 0
    have hql := pairsN_len b a 0 0
    rw [lcs_symm b a] at hql
    have HOK := Lib.hid (pairs_ok a b)
    have HLQ : Hid ((pairsN b 0 a 0).length = (pairsN a 0 b 0).length) := Lib.hid (by rw [hpl, hql])
    generalize pairsN b 0 a 0 = Q at *
    generalize pairsN a 0 b 0 = P at *
    have HPL := Lib.hid hpl
    have hpb : P.length ≤ 1048576 := by have := (lcs_len a b).1; omega
    clear hm hpl hql
    go_wp2_with fail
    refine HP.out.mono ?_
    rintro e w2 ⟨v2, rfl, ho2, hb2⟩
    have B2 := Lib.hid (B1.out.trans (hb2.mono hs1))
    have O2 := Lib.hid (ownP_c ho2)
    have hs2 := B2.out.size
    obtain ⟨a2, c2, rfl⟩ := ownP_slice ho2
    clear ho2 hb2 HP
    go_wp2_with fail
    go_loopw [9, 10, 33] (fun i j m wr => ∃ (k x y : Nat) (xi yi : Int), k ≤ P.length ∧ m = .int .i64 k ∧ i = .int .i64 xi ∧ j = .int .i64 yi ∧ -1 ≤ xi ∧ -1 ≤ yi ∧ xi ≤ 4194304 ∧ yi ≤ 4194304 ∧ Hid (xi = (x : Int) - 1) ∧ Hid (yi = (y : Int) - 1) ∧ Hid (PairsOk a b x y (P.drop k)) ∧ Hid (Below w2.heap.size w2 wr)) (fun _ _ m _ => P.length - (intOf m).toNat)
    case atStart => exact ⟨0, 0, 0, -1, -1, Nat.zero_le _, rfl, rfl, rfl, by omega, by omega, by omega, by omega, Lib.hid rfl, Lib.hid rfl, HOK, Lib.hid (Below.refl _ _)⟩
    case round =>
      obtain ⟨k, x, y, xi, yi, hk, rfl, rfl, rfl, hx1, hy1, hx2, hy2, hxe, hye, hok, hW⟩ := hrel
      have hsz := hW.out.size
      by_cases hlt : k < P.length
      · obtain ⟨g, o, rfl, hSg, _, _, hcq⟩ := O2.out.at (by omega)
        have hd : P.drop k = P.getD k (0, 0) :: P.drop (k + 1) := by rw [List.drop_eq_getElem_cons hlt, getD_at hlt]
        obtain ⟨q1, q2⟩ := p2_at P k hlt
        have c1 := (hW.out.cell (p := ⟨g, o + k * 2, none⟩) hSg.2).trans (hcq _ _ q1)
        have c2 := (hW.out.cell (p := ⟨g, o + k * 2 + 1, none⟩) hSg.2).trans (hcq _ _ q2)
        have hok2 := hok.out
        rw [hd] at hok2
        generalize P.getD k (0, 0) = p at *
        obtain ⟨p0, p1⟩ := p
        obtain ⟨s1, s2, s3, s4, s5, s6⟩ := hok2
        simp only at s1 s2 s3 s4 s5 c1 c2
        have SN := Lib.hid s6
        have hxp : xi < (p0 : Int) := by have := hxe.out; omega
        have hyp : yi < (p1 : Int) := by have := hye.out; omega
        have HWW : Hid (∀ q, q < w.heap.size → wr.heap[q]? = w.heap[q]?) := Lib.hid (fun q hq => (hW.out.block q (by omega)).trans (B2.out.block q hq))
        obtain ⟨ga, oa, rfl, hSa, _, _, hca⟩ := (HA.out wr HWW.out).at (by omega)
        obtain ⟨gb, ob, rfl, hSb, _, _, hcb⟩ := (HB.out wr HWW.out).at (by omega)
        have e1 := hca p0 s3
        have e2 := hcb p1 s4
        have hee : b.getD p1 [] = a.getD p0 [] := by
          rw [List.getElem?_eq_getElem s3, List.getElem?_eq_getElem s4] at s5
          injection s5 with s5
          rw [getD_at s3, getD_at s4, s5]
        rw [hee] at e2
        generalize a.getD p0 [] = z at *
        have B8 : Hid (Below w2.heap.size w2 (wr.alloc (.cells #[.int .i64 (p0 : Int), .int .i64 (p1 : Int)] 46))) := Lib.hid (hW.out.alloc hsz _)
        have hblkA := HS.out _ hSa
        have hblkB := HT.out _ hSb
        have e1' := (World.cell?_of_block (w := wr) (a := ⟨ga, oa + p0, none⟩) (Below.heap_alloc wr (.cells #[.int .i64 (p0 : Int), .int .i64 (p1 : Int)] 46) ga (by omega))).trans e1
        have e2' := (World.cell?_of_block (w := wr) (a := ⟨gb, ob + p1, none⟩) (Below.heap_alloc wr (.cells #[.int .i64 (p0 : Int), .int .i64 (p1 : Int)] 46) gb (by omega))).trans e2
        have HN5 := Lib.hid (new_five wr #[.int .i64 (p0 : Int), .int .i64 (p1 : Int)] 46)
        have hxx : -1 ≤ (p0 : Int) := by omega
        clear hd q1 q2 hcq hca hcb s5 s6 hee e1 e2 hok hxe hye
        go_upto_region 10 with fail
        have f0 : (wr.alloc (.cells #[.int .i64 (p0 : Int), .int .i64 (p1 : Int)] 46)).cell? ⟨wr.heap.size, 0, none⟩ = some (.int .i64 (p0 : Int)) := by rw [cell_of_row _ _ _ _ _ _ HN5.out]; rfl
        have f1 : (wr.alloc (.cells #[.int .i64 (p0 : Int), .int .i64 (p1 : Int)] 46)).cell? ⟨wr.heap.size, 1, none⟩ = some (.int .i64 (p1 : Int)) := by rw [cell_of_row _ _ _ _ _ _ HN5.out]; rfl
        clear c1 c2 HN5
        generalize wr.alloc (.cells #[.int .i64 (p0 : Int), .int .i64 (p1 : Int)] 46) = wp at *
        go_quiet (fail)
        have B9 := Lib.hid (B8.out.trans (drewn w2.heap.size wp nq))
        have f0' : (wp.drewN nq).cell? ⟨wr.heap.size, 0, none⟩ = some (.int .i64 (p0 : Int)) := f0
        have f1' : (wp.drewN nq).cell? ⟨wr.heap.size, 1, none⟩ = some (.int .i64 (p1 : Int)) := f1
        clear f0 f1 e1' e2' B8
        generalize wp.drewN nq = wq at *
        go_wp2_with fail
        go_quiet (fail)
        have B10 := Lib.hid (B9.out.trans (drewn w2.heap.size wq nq))
        clear f0' f1' B9
        go_wp2_with fail
        go_roundw
        case rel => exact ⟨k + 1, p0 + 1, p1 + 1, _, _, by omega, by go_num, rfl, rfl, by omega, by omega, by omega, by omega, Lib.hid (by push_cast; omega), Lib.hid (by push_cast; omega), SN, B10⟩
        case measure => simp [intOf]; omega
      · clear hxe hye hok
        obtain ⟨w3, hw3⟩ : ∃ w3, w3 = wr := ⟨_, rfl⟩
        have B3 : Hid (Below w.heap.size w w3) := Lib.hid (by rw [hw3]; exact B2.out.trans (hW.out.mono hs2))
        rw [← hw3]
        clear hw3 hW
        have hs3 := B3.out.size
        go_wp2_with fail
        go_loopw [13, 14, 81] (fun nn qq ii wr => ∃ (n q i : Nat), i ≤ a.length ∧ q ≤ b.length ∧ n ≤ i ∧ ii = .int .i64 i ∧ qq = .int .i64 q ∧ nn = .int .i64 n ∧ Hid (Found a b i q n) ∧ wr = w3) (fun _ _ ii _ => a.length - (intOf ii).toNat)
        case atStart => exact ⟨0, 0, 0, Nat.zero_le _, Nat.zero_le _, Nat.le_refl _, rfl, rfl, rfl, Lib.hid ⟨[], rfl, List.nil_sublist _, List.nil_sublist _⟩, rfl⟩
        case round =>
          obtain ⟨n, q, i, hi, hq, hni, rfl, rfl, rfl, hsub, rfl⟩ := hrel
          have HWE : Hid (∀ q, q < w.heap.size → wr.heap[q]? = w.heap[q]?) := Lib.hid B3.out.block
          by_cases hia : i < a.length
          · obtain ⟨ga, oa, rfl, hSa, _, _, hca⟩ := (HA.out _ HWE.out).at (by omega)
            have e1 := hca i hia
            have HN1 := Lib.hid (hsub.out.on (Nat.le_succ i) (Nat.le_refl q))
            clear hca
            by_cases hcx : i < ch.length
            · obtain ⟨gc, oc, rfl, hSc, _, _, hcc⟩ := (HC.out _ HWE.out).at (by omega)
              have e3 := hcc i hcx
              clear hcc
              cases hbit : ch.getD i false
              · rw [hbit] at e3
                generalize a.getD i [] = z at *
                clear hbit
                go_wp2_with fail
                go_roundw
                case rel => exact ⟨n, q, i + 1, by omega, hq, by omega, by go_num, rfl, rfl, HN1, trivial⟩
                case measure => simp [intOf]; omega
              · rw [hbit] at e3
                have HMORE := Lib.hid (fun (q' : Nat) (h : Found a b i q' n) hq' e => h.more hia hq' e)
                generalize hz : a.getD i [] = z at *
                clear hbit hz
                go_wp2_with fail
                obtain ⟨wo, hwo⟩ : ∃ wo : World, wo = wr := ⟨_, rfl⟩
                go_loopw [14] (fun qq wz => ∃ (q' : Nat), q' ≤ b.length ∧ qq = .int .i64 q' ∧ Hid (Found a b i q' n) ∧ wz = wr) (fun qq _ => b.length - (intOf qq).toNat)
                case atStart => exact ⟨q, hq, rfl, hsub, rfl⟩
                case round =>
                  obtain ⟨q', hq', rfl, hs', rfl⟩ := hrel
                  by_cases hqb : q' < b.length
                  · obtain ⟨gb, ob, rfl, hSb, _, _, hcb⟩ := (HB.out _ HWE.out).at (by omega)
                    have e2 := hcb q' hqb
                    clear hcb
                    by_cases hyz : b.getD q' [] = z
                    · have HN2 := Lib.hid (HMORE.out q' hs'.out hqb hyz)
                      have gq : (b.getD q' [] == z) = true := by rw [hyz]; simp
                      generalize b.getD q' [] = y at *
                      have gne : ((q' : Int) == (b.length : Int)) = false := by rw [beq_eq_false_iff_ne]; omega
                      clear hyz
                      go_wp2_with fail
                      go_roundw
                      case rel => exact ⟨n + 1, q' + 1, i + 1, by omega, by omega, by omega, by go_num, by go_num, by go_num, HN2, trivial⟩
                      case measure => simp [intOf]; omega
                    · have gq : (b.getD q' [] == z) = false := by simpa using hyz
                      have HN2 := Lib.hid (hs'.out.on (Nat.le_refl i) (Nat.le_succ q'))
                      generalize b.getD q' [] = y at *
                      clear hyz
                      go_wp2_with fail
                      go_roundw
                      case rel => exact ⟨q' + 1, by omega, by go_num, HN2, trivial⟩
                      case measure => simp [intOf]; omega
                  · have hqe : q' = b.length := by omega
                    have ge : ((q' : Int) == (b.length : Int)) = true := by rw [beq_iff_eq]; omega
                    obtain ⟨wE, hwE⟩ : ∃ wE, wE = wr := ⟨_, rfl⟩
                    have hszE : w.heap.size ≤ wE.heap.size := by rw [hwE]; exact hs3
                    have BE : Hid (Below w.heap.size w wE) := Lib.hid (by rw [hwE]; exact B3.out)
                    have HWE : Hid (∀ q, q < w.heap.size → wE.heap[q]? = w.heap[q]?) := Lib.hid BE.out.block
                    have hsub := hs'
                    rw [← hwE]
                    clear hqe hwE e1 e3
                    have HNL : Hid (n ≤ P.length) := Lib.hid (by
                      obtain ⟨s, s1, s2, s3⟩ := hsub.out
                      have h := sub_lcs (s2.trans (List.take_sublist _ _)) (s3.trans (List.take_sublist _ _))
                      have := HPL.out; omega)
                    have HNL2 := HNL.out
                    have HQC := Lib.hid (HQ.out wE (fun k hk => HWE.out k hk) hszE)
                    clear HQ
                    go_wp2_with fail
                    refine HQC.out.mono ?_
                    rintro e w9 ⟨v9, rfl, ho9, hb9⟩
                    have B9 := Lib.hid (BE.out.trans (hb9.mono hszE))
                    obtain ⟨a9, c9, rfl⟩ := ownP_slice ho9
                    rw [HLQ.out]
                    clear ho9 hb9
                    go_wp2_with fail
                    go_ret
                    exact ⟨rfl, B9.out⟩
            · go_wp2_with fail
              go_roundw
              case rel => exact ⟨n, q, i + 1, by omega, hq, by omega, by go_num, rfl, rfl, HN1, trivial⟩
              case measure => simp [intOf]; omega
          · obtain ⟨wE, hwE⟩ : ∃ wE, wE = wr := ⟨_, rfl⟩
            have hszE : w.heap.size ≤ wE.heap.size := by rw [hwE]; exact hs3
            have BE : Hid (Below w.heap.size w wE) := Lib.hid (by rw [hwE]; exact B3.out)
            have HWE : Hid (∀ q, q < w.heap.size → wE.heap[q]? = w.heap[q]?) := Lib.hid BE.out.block
            rw [← hwE]
            clear hwE
            have HNL : Hid (n ≤ P.length) := Lib.hid (by
              obtain ⟨s, s1, s2, s3⟩ := hsub.out
              have h := sub_lcs (s2.trans (List.take_sublist _ _)) (s3.trans (List.take_sublist _ _))
              have := HPL.out; omega)
            have HNL2 := HNL.out
            have HQC := Lib.hid (HQ.out wE (fun k hk => HWE.out k hk) hszE)
            clear HQ
            go_wp2_with fail
            refine HQC.out.mono ?_
            rintro e w9 ⟨v9, rfl, ho9, hb9⟩
            have B9 := Lib.hid (BE.out.trans (hb9.mono hszE))
            obtain ⟨a9, c9, rfl⟩ := ownP_slice ho9
            rw [HLQ.out]
            clear ho9 hb9
            go_wp2_with fail
            go_ret
            exact ⟨rfl, B9.out⟩
  · have HP := Lib.hid (pairs_long S T (.slice aa a.length ac) (.slice ba b.length bc) a b w1 (HA.out _ B1.out.block) (HB.out _ B1.out.block) (by omega) (by omega) (by omega))
    clear hm
    go_wp2_with fail
    refine HP.out.mono ?_
    rintro e w2 ⟨rfl, rfl⟩
    go_wp2_with fail
    go_ret
    exact ⟨rfl, B1.out⟩
end Go.Proofs.Ytfiogjdjcocbnaa
