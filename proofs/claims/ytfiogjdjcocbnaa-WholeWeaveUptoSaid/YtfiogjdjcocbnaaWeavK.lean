/- The walk of the reference's Text. -/
import Derived.Test.YtfiogjdjcocbnaaWeavI
namespace Go.Proofs.Ytfiogjdjcocbnaa
open Go.RowKit

set_option maxRecDepth 100000 in
set_option maxHeartbeats 8000000 in
theorem rtext_any (S : Nat → Prop) (vp : Value) (ps : List (PartN (List UInt8))) (so st : List UInt8) (w : World) (hS : ∀ k, S k → k < w.heap.size) (hp : PartsC S w vp ps) (hpl : ps.length ≤ 4194304) (hx : ∀ p ∈ ps, (∀ x ∈ p.base, x.length ≤ 4194304) ∧ (∀ x ∈ p.ours, x.length ≤ 4194304) ∧ (∀ x ∈ p.theirs, x.length ≤ 4194304)) (hn : partsN ps ≤ 33554432) (hso : so.length ≤ 4194304) (hst : st.length ≤ 4194304) :
    Calls Try.prog 39 #[vp, .string ⟨so.toArray⟩, .string ⟨st.toArray⟩] w fun e w' => ∃ v, e = .returned (.tuple #[v, .bool (calmN ps)]) ∧ OwnS w' w.heap.size v (textN (headN so) (footN st) ps) ∧ Below w.heap.size w w' := by
  obtain ⟨i0, hi, hz0, hz1, hz2⟩ := info_parts Try.info9s
  obtain ⟨pa, pc, rfl⟩ := hp.shape
  have HS := Lib.hid hS
  have HP := Lib.hid (fun (W : World) (h : Below w.heap.size w W) => hp.kept part_keeps (S' := S) (w' := W) (fun k hk => ⟨hk, h.block k (hS k hk)⟩))
  have HX := Lib.hid hx
  have HR := Lib.hid (Below.refl w.heap.size w)
  have e1 : (⟨#[60, 60, 60, 60, 60, 60, 60, 32]⟩ : ByteArray) ++ (⟨so.toArray⟩ : ByteArray) ++ (⟨#[10]⟩ : ByteArray) = ⟨(headN so).toArray⟩ := by
    apply ByteArray.ext; simp [headN]
  have e2 : (⟨#[62, 62, 62, 62, 62, 62, 62, 32]⟩ : ByteArray) ++ (⟨st.toArray⟩ : ByteArray) ++ (⟨#[10]⟩ : ByteArray) = ⟨(footN st).toArray⟩ := by
    apply ByteArray.ext; simp [footN]
  have E1 := Lib.hid e1
  have E2 := Lib.hid e2
  obtain ⟨head, hh⟩ : ∃ h, headN so = h := ⟨_, rfl⟩
  obtain ⟨foot, hf⟩ : ∃ h, footN st = h := ⟨_, rfl⟩
  rw [hh, hf]
  rw [hh] at E1
  rw [hf] at E2
  obtain ⟨out, hout⟩ : ∃ o, textN head foot ps = o := ⟨_, rfl⟩
  obtain ⟨cm, hcm⟩ : ∃ o, calmN ps = o := ⟨_, rfl⟩
  rw [hout, hcm]
  have HOUT := Lib.hid hout
  have HCM := Lib.hid hcm
  have HN := Lib.hid hn
  clear hS hp hx e1 e2 hh hf hout hcm
  go_enter Try.func39, Try.ntmps39
  go_wp2_with fail
  go_loopw [8, 9, 10] (fun l c i wr => ∃ (k : Nat) (o0 : List (List UInt8)) (q : Bool), k ≤ ps.length ∧ i = .int .i64 k ∧ c = .bool q ∧ o0.length ≤ 33554432 ∧ Hid (o0.length + partsN (ps.drop k) ≤ partsN ps) ∧ Hid ((q && calmN (ps.drop k)) = cm) ∧ Hid (o0 ++ textN head foot (ps.drop k) = out) ∧ Hid (OwnS wr w.heap.size l o0) ∧ Hid (Below w.heap.size w wr)) (fun _ _ i _ => ps.length - (intOf i).toNat)
  case atStart => exact ⟨0, [], true, Nat.zero_le _, rfl, rfl, by simp, Lib.hid (by simp), Lib.hid (by rw [← HCM.out]; rfl), Lib.hid HOUT.out, Lib.hid (ownS_nil _ _), HR⟩
  case round =>
    obtain ⟨k, o0, q, hk, rfl, rfl, hob0, hN, hQ, hE, hO, hW⟩ := hrel
    obtain ⟨la0, lc0, rfl⟩ := ownS_slice hO.out
    have hsz := hW.out.size
    by_cases hlt : k < ps.length
    · obtain ⟨g, og, rfl, hSg, _, _, hcs⟩ := part_at (HP.out wr hW.out) (by omega)
      obtain ⟨p, hh⟩ : ∃ p, ps[k]? = some p := ⟨_, List.getElem?_eq_getElem hlt⟩
      have hd : ps.drop k = p :: ps.drop (k + 1) := drop_one hh
      obtain ⟨x1, x2, x3⟩ := HX.out p (List.mem_of_getElem? hh)
      obtain ⟨aba, cba, aou, cou, ath, cth, z0, z1, z2, z3, r1, r2, r3⟩ := hcs k p hh
      obtain ⟨kd, ba, ou, th⟩ := p
      simp only at z0 z1 z2 z3 r1 r2 r3 x1 x2 x3
      have hN2 := hN.out
      have hQ2 := hQ.out
      have hE2 := hE.out
      rw [hd] at hN2 hQ2 hE2
      rw [partsN_cons] at hN2
      simp only at hN2
      have HN2 := Lib.hid hN2
      have hnb := HN.out
      have hbal : ba.length ≤ 33554432 := by omega
      have houl : ou.length ≤ 33554432 := by omega
      have hthl : th.length ≤ 33554432 := by omega
      have hall : o0.length + ba.length + ou.length + th.length + 4 ≤ 33554432 := by omega
      have HQ2 : Hid ((q && (calm1 (⟨kd, ba, ou, th⟩ : PartN (List UInt8)) && calmN (ps.drop (k + 1)))) = cm) := Lib.hid hQ2
      have HE2 : Hid (o0 ++ (text1 head foot ⟨kd, ba, ou, th⟩ ++ textN head foot (ps.drop (k + 1))) = out) := Lib.hid hE2
      have HXba := Lib.hid x1
      have HXou := Lib.hid x2
      have HXth := Lib.hid x3
      have HLba := Lib.hid (fun (W : World) (h : Below w.heap.size w W) => r1.kept (S' := S) (w' := W) (fun q hq => ⟨hq, (h.block q (HS.out q hq)).trans (hW.out.block q (HS.out q hq)).symm⟩))
      have HLou := Lib.hid (fun (W : World) (h : Below w.heap.size w W) => r2.kept (S' := S) (w' := W) (fun q hq => ⟨hq, (h.block q (HS.out q hq)).trans (hW.out.block q (HS.out q hq)).symm⟩))
      have HLth := Lib.hid (fun (W : World) (h : Below w.heap.size w W) => r3.kept (S' := S) (w' := W) (fun q hq => ⟨hq, (h.block q (HS.out q hq)).trans (hW.out.block q (HS.out q hq)).symm⟩))
      have O1 : Hid (OwnS (wr.alloc (.cells #[.int .i64 kd, .slice aba ba.length cba, .slice aou ou.length cou, .slice ath th.length cth] 100)) w.heap.size (.slice la0 o0.length lc0) o0) := Lib.hid (World.ownsRow.alloc hO.out _)
      have W1 : Hid (Below w.heap.size w (wr.alloc (.cells #[.int .i64 kd, .slice aba ba.length cba, .slice aou ou.length cou, .slice ath th.length cth] 100))) := Lib.hid (hW.out.alloc hsz _)
      have HBX := Lib.hid (new_five wr #[.int .i64 kd, .slice aba ba.length cba, .slice aou ou.length cou, .slice ath th.length cth] 100)
      have NB0 : Hid ((Value.slice la0 o0.length lc0).ownBlock ≠ some wr.heap.size) := Lib.hid (fun e => by have := (World.ownsRow.lt hO.out _ e).2; omega)
      have hlt2 : wr.heap.size < (wr.alloc (.cells #[.int .i64 kd, .slice aba ba.length cba, .slice aou ou.length cou, .slice ath th.length cth] 100)).heap.size := by simp
      clear hcs hh hd r1 r2 r3 x1 x2 x3 hN hQ hE hN2 hQ2 hE2 hnb
      go_upto_region 7 with fail
      clear z0 z1 z2 z3 hO hW
      have HBX4 : Hid (∀ W : World, W.heap[wr.heap.size]? = (wr.alloc (.cells #[.int .i64 kd, .slice aba ba.length cba, .slice aou ou.length cou, .slice ath th.length cth] 100)).heap[wr.heap.size]? → W.cell? ⟨wr.heap.size, 0, none⟩ = some (.int .i64 kd) ∧ W.cell? ⟨wr.heap.size, 1, none⟩ = some (.slice aba ba.length cba) ∧ W.cell? ⟨wr.heap.size, 2, none⟩ = some (.slice aou ou.length cou) ∧ W.cell? ⟨wr.heap.size, 3, none⟩ = some (.slice ath th.length cth)) := Lib.hid (fun W hW => box4 HBX.out hW)
      have hszb : w.heap.size ≤ (wr.alloc (.cells #[.int .i64 kd, .slice aba ba.length cba, .slice aou ou.length cou, .slice ath th.length cth] 100)).heap.size := by omega
      clear HBX
      generalize wr.alloc (.cells #[.int .i64 kd, .slice aba ba.length cba, .slice aou ou.length cou, .slice ath th.length cth] 100) = wp at *
      generalize wr.heap.size = pb at *
      obtain ⟨b0, b1, b2, b3⟩ := HBX4.out wp rfl
      have hkd : (kd = 0 ∨ kd = 1 ∨ kd = 3) ∨ kd = 2 ∨ (kd ≠ 0 ∧ kd ≠ 1 ∧ kd ≠ 3 ∧ kd ≠ 2) := by omega
      rcases hkd with hkd | hkd | ⟨n0, n1, n3, n2⟩
      · have HT : Hid (text1 head foot ⟨kd, ba, ou, th⟩ = ou) := Lib.hid (if_pos hkd)
        have HC1 : Hid (calm1 (⟨kd, ba, ou, th⟩ : PartN (List UInt8)) = true) := Lib.hid (decide_eq_true (by show kd = 0 ∨ kd = 1 ∨ kd = 3 ∨ kd = 2; omega))
        have SRC : Hid (Src Try.prog 1 24 (.slice aou ou.length cou) ou.length (sv ou) wp) := Lib.hid (HLou.out wp W1.out).src
        rcases hkd with hc | hc | hc
        all_goals
          have g0 : (kd == 0) = decide (kd = 0) := rfl
          have g1 : (kd == 1) = decide (kd = 1) := rfl
          have g3 : (kd == 3) = decide (kd = 3) := rfl
          rw [hc] at g0 g1 g3
          go_wp2_with (at_builtin; refine wpList_own_src _ rfl _ _ 24 24 rfl w.heap.size 9 i0 (.string ByteArray.empty) 1 16 Try.underlying24 hi hz0 hz1 hz2 rfl (by decide) _ _ _ rfl O1.out _ ou.length (sv ou) rfl SRC.out (by unfold maxLen; omega) (by omega) hszb ?_)
          intro v5 w5 hown5 hg5
          have O5 : Hid (OwnS w5 w.heap.size v5 (o0 ++ ou)) := Lib.hid (ownS_more rfl hown5)
          have W5 : Hid (Below w.heap.size w w5) := Lib.hid (W1.out.grown hg5.gb hszb (fun q hq => (World.ownsRow.lt O1.out q hq).1))
          clear hown5 hg5 b0 b1 b2 b3 g0 g1 g3
          go_wp2_with fail
          go_roundw
          case rel => exact ⟨k + 1, o0 ++ ou, q, by omega, by go_num, rfl, by simp; omega, Lib.hid (by have := HN2.out; simp; omega), Lib.hid (by rw [← HQ2.out, HC1.out, Bool.true_and]), Lib.hid (by rw [← HE2.out, HT.out, List.append_assoc]), O5, W5⟩
          case measure => simp [intOf]; omega
      · have HT : Hid (text1 head foot ⟨kd, ba, ou, th⟩ = th) := Lib.hid ((if_neg (by show ¬ (kd = 0 ∨ kd = 1 ∨ kd = 3); omega)).trans (if_pos hkd))
        have HC1 : Hid (calm1 (⟨kd, ba, ou, th⟩ : PartN (List UInt8)) = true) := Lib.hid (decide_eq_true (by show kd = 0 ∨ kd = 1 ∨ kd = 3 ∨ kd = 2; omega))
        have SRC : Hid (Src Try.prog 1 24 (.slice ath th.length cth) th.length (sv th) wp) := Lib.hid (HLth.out wp W1.out).src
        have g0 : (kd == 0) = false := by rw [hkd]; rfl
        have g1 : (kd == 1) = false := by rw [hkd]; rfl
        have g3 : (kd == 3) = false := by rw [hkd]; rfl
        have g2 : (kd == 2) = true := by rw [hkd]; rfl
        clear hkd
        go_wp2_with (at_builtin; refine wpList_own_src _ rfl _ _ 24 24 rfl w.heap.size 9 i0 (.string ByteArray.empty) 1 16 Try.underlying24 hi hz0 hz1 hz2 rfl (by decide) _ _ _ rfl O1.out _ th.length (sv th) rfl SRC.out (by unfold maxLen; omega) (by omega) hszb ?_)
        intro v5 w5 hown5 hg5
        have O5 : Hid (OwnS w5 w.heap.size v5 (o0 ++ th)) := Lib.hid (ownS_more rfl hown5)
        have W5 : Hid (Below w.heap.size w w5) := Lib.hid (W1.out.grown hg5.gb hszb (fun q hq => (World.ownsRow.lt O1.out q hq).1))
        clear hown5 hg5 b0 b1 b2 b3 g0 g1 g3 g2
        go_wp2_with fail
        go_roundw
        case rel => exact ⟨k + 1, o0 ++ th, q, by omega, by go_num, rfl, by simp; omega, Lib.hid (by have := HN2.out; simp; omega), Lib.hid (by rw [← HQ2.out, HC1.out, Bool.true_and]), Lib.hid (by rw [← HE2.out, HT.out, List.append_assoc]), O5, W5⟩
        case measure => simp [intOf]; omega
      · have HT : Hid (text1 head foot ⟨kd, ba, ou, th⟩ = [head] ++ closedN ou ++ [[124, 124, 124, 124, 124, 124, 124, 32, 98, 97, 115, 101, 10]] ++ closedN ba ++ [[61, 61, 61, 61, 61, 61, 61, 10]] ++ closedN th ++ [foot]) := Lib.hid ((if_neg (by show ¬ (kd = 0 ∨ kd = 1 ∨ kd = 3); omega)).trans (if_neg n2))
        have HC1 : Hid (calm1 (⟨kd, ba, ou, th⟩ : PartN (List UInt8)) = false) := Lib.hid (decide_eq_false (by show ¬ (kd = 0 ∨ kd = 1 ∨ kd = 3 ∨ kd = 2); omega))
        have g0 : (kd == 0) = false := by rw [beq_eq_false_iff_ne]; exact n0
        have g1 : (kd == 1) = false := by rw [beq_eq_false_iff_ne]; exact n1
        have g3 : (kd == 3) = false := by rw [beq_eq_false_iff_ne]; exact n3
        have g2 : (kd == 2) = false := by rw [beq_eq_false_iff_ne]; exact n2
        clear n0 n1 n2 n3
        go_upto_region 12 with fail
        clear b0 b1 b2 b3 g0 g1 g3 g2
        obtain ⟨w1, hw1⟩ : ∃ W, W = wp := ⟨_, rfl⟩
        have P1 : Hid (w1.heap[pb]? = wp.heap[pb]?) := Lib.hid (by rw [hw1])
        rw [← hw1] at O1 W1 hlt2 hszb ⊢
        have hp1 : pb < w1.heap.size := hlt2
        have NB1 := NB0
        obtain ⟨o1, ho1⟩ : ∃ o1, o1 = o0 := ⟨_, rfl⟩
        have HO1 := Lib.hid ho1
        rw [← ho1] at O1 NB1 hall hob0 ⊢
        clear hw1 ho1 hlt2 hszb NB0
        obtain ⟨la1, hla1⟩ : ∃ a, a = la0 := ⟨_, rfl⟩
        obtain ⟨lc1, hlc1⟩ : ∃ a, a = lc0 := ⟨_, rfl⟩
        rw [← hla1, ← hlc1] at O1 NB1 ⊢
        clear hla1 hlc1
        have hs1 := W1.out.size
        go_upto_region 13 with (at_builtin; refine wpList_own_src _ rfl _ _ 24 24 rfl w.heap.size 9 i0 (.string ByteArray.empty) 1 16 Try.underlying24 hi hz0 hz1 hz2 rfl (by decide) _ _ _ rfl (World.ownsRow.alloc O1.out _) _ 1 [.string ((⟨#[60, 60, 60, 60, 60, 60, 60, 32]⟩ : ByteArray) ++ (⟨so.toArray⟩ : ByteArray) ++ (⟨#[10]⟩ : ByteArray))] rfl (srcS_one _ _) (by unfold maxLen; omega) (by omega) (by simp; omega) ?_; intro v2 w2 hown2 hg2)
        have hO2 : OwnS w2 w.heap.size v2 (o1 ++ [head]) := ownS_push (x := head) (by rw [← E1.out]; exact hown2)
        have P2 : Hid (w2.heap[pb]? = wp.heap[pb]?) := Lib.hid ((hg2.gb.block pb (show pb < (w1.alloc (.cells #[.string ((⟨#[60, 60, 60, 60, 60, 60, 60, 32]⟩ : ByteArray) ++ (⟨so.toArray⟩ : ByteArray) ++ (⟨#[10]⟩ : ByteArray))] 9)).heap.size by simp; omega) (fun e => NB1.out e.symm)).trans ((Below.heap_alloc _ _ _ hp1).trans P1.out))
        have W2 : Hid (Below w.heap.size w w2) := Lib.hid ((W1.out.alloc W1.out.size _).grown hg2.gb (by simp; omega) (fun q hq => (World.ownsRow.lt O1.out q hq).1))
        have hp2 : pb < w2.heap.size := by have := hg2.size; have := (show pb < (w1.alloc (.cells #[.string ((⟨#[60, 60, 60, 60, 60, 60, 60, 32]⟩ : ByteArray) ++ (⟨so.toArray⟩ : ByteArray) ++ (⟨#[10]⟩ : ByteArray))] 9)).heap.size by simp; omega : pb < _); omega
        have NBv2 : v2.ownBlock ≠ some pb := fun e => by
          rcases hg2.own _ e with e2 | e2
          · exact NB1.out e2
          · have := (show pb < (w1.alloc (.cells #[.string ((⟨#[60, 60, 60, 60, 60, 60, 60, 32]⟩ : ByteArray) ++ (⟨so.toArray⟩ : ByteArray) ++ (⟨#[10]⟩ : ByteArray))] 9)).heap.size by simp; omega : pb < _); omega
        obtain ⟨o2, ho2⟩ : ∃ o, o1 ++ [head] = o := ⟨_, rfl⟩
        have hol2 : o2.length = o1.length + ([head]).length := by rw [← ho2]; simp
        rw [ho2] at hO2
        have HO2 := Lib.hid ho2
        have HOL2 := Lib.hid hol2
        obtain ⟨la2, lc2, rfl⟩ := ownS_slice hO2
        have O2 := Lib.hid hO2
        have NB2 := Lib.hid NBv2
        have hs2 := W2.out.size
        have hob2 : o2.length + ou.length + ba.length + th.length + 3 ≤ 33554432 := by rw [hol2]; simp; omega
        clear hown2 hg2 NBv2 ho2 hol2 hO2
        obtain ⟨b0, b1, b2, b3⟩ := HBX4.out w2 P2.out
        go_wp2_with fail
        refine (rclosed_any S _ ou w2 (fun q hq => by have := HS.out q hq; omega) (HLou.out w2 W2.out) (by omega) HXou.out).mono ?_
        rintro e wc ⟨vc, rfl, hoc, hbc⟩
        have OC : Hid (OwnS wc w.heap.size (.slice la2 o2.length lc2) o2) := Lib.hid (own_below O2.out (fun q _ hq => hbc.block q hq))
        have WC : Hid (Below w.heap.size w wc) := Lib.hid (W2.out.trans (hbc.mono hs2))
        have PC : Hid (wc.heap[pb]? = wp.heap[pb]?) := Lib.hid ((hbc.block pb hp2).trans P2.out)
        have hpc : pb < wc.heap.size := by have := hbc.size; omega
        have SRCC := Lib.hid (ownS_c hoc).src
        obtain ⟨cl, hcl⟩ : ∃ cl, closedN ou = cl := ⟨_, rfl⟩
        have hcll : cl.length = ou.length := by rw [← hcl, closedN_len]
        rw [hcl] at SRCC hoc
        obtain ⟨va3, vc3, rfl⟩ := ownS_slice hoc
        have HCLL := Lib.hid hcll
        have HCLE3 := Lib.hid hcl
        have hcb : cl.length ≤ 33554432 := by omega
        have hcs := WC.out.size
        clear b0 b1 b2 b3 hoc hbc hcll hcl
        go_upto_region 14 with (at_builtin; refine wpList_own_src _ rfl _ _ 24 24 rfl w.heap.size 9 i0 (.string ByteArray.empty) 1 16 Try.underlying24 hi hz0 hz1 hz2 rfl (by decide) _ _ _ rfl OC.out _ cl.length (sv cl) rfl SRCC.out (by unfold maxLen; omega) (by omega) hcs ?_; intro v3 w3 hown3 hg3)
        have hO3 : OwnS w3 w.heap.size v3 (o2 ++ cl) := ownS_more rfl hown3
        have P3 : Hid (w3.heap[pb]? = wp.heap[pb]?) := Lib.hid ((hg3.gb.block pb (hpc) (fun e => NB2.out e.symm)).trans PC.out)
        have W3 : Hid (Below w.heap.size w w3) := Lib.hid (WC.out.grown hg3.gb hcs (fun q hq => (World.ownsRow.lt O2.out q hq).1))
        have hp3 : pb < w3.heap.size := by have := hg3.size; have := (hpc : pb < _); omega
        have NBv3 : v3.ownBlock ≠ some pb := fun e => by
          rcases hg3.own _ e with e2 | e2
          · exact NB2.out e2
          · have := (hpc : pb < _); omega
        obtain ⟨o3, ho3⟩ : ∃ o, o2 ++ cl = o := ⟨_, rfl⟩
        have hol3 : o3.length = o2.length + (cl).length := by rw [← ho3]; simp
        rw [ho3] at hO3
        have HO3 := Lib.hid ho3
        have HOL3 := Lib.hid hol3
        obtain ⟨la3, lc3, rfl⟩ := ownS_slice hO3
        have O3 := Lib.hid hO3
        have NB3 := Lib.hid NBv3
        have hs3 := W3.out.size
        have hob3 : o3.length + ba.length + th.length + 3 ≤ 33554432 := by have := HCLL.out; rw [hol3]; omega
        rw [← HCLE3.out] at HO3 HOL3
        clear hown3 hg3 NBv3 ho3 hol3 hO3 OC WC PC hpc SRCC HCLL hcb hcs HCLE3
        go_upto_region 15 with (at_builtin; refine wpList_own_src _ rfl _ _ 24 24 rfl w.heap.size 9 i0 (.string ByteArray.empty) 1 16 Try.underlying24 hi hz0 hz1 hz2 rfl (by decide) _ _ _ rfl (World.ownsRow.alloc O3.out _) _ 1 [.string ⟨#[124, 124, 124, 124, 124, 124, 124, 32, 98, 97, 115, 101, 10]⟩] rfl (srcS_one _ _) (by unfold maxLen; omega) (by omega) (by simp; omega) ?_; intro v4 w4 hown4 hg4)
        have hO4 : OwnS w4 w.heap.size v4 (o3 ++ [[124, 124, 124, 124, 124, 124, 124, 32, 98, 97, 115, 101, 10]]) := ownS_push (x := [124, 124, 124, 124, 124, 124, 124, 32, 98, 97, 115, 101, 10]) (by exact hown4)
        have P4 : Hid (w4.heap[pb]? = wp.heap[pb]?) := Lib.hid ((hg4.gb.block pb (show pb < (w3.alloc (.cells #[.string ⟨#[124, 124, 124, 124, 124, 124, 124, 32, 98, 97, 115, 101, 10]⟩] 9)).heap.size by simp; omega) (fun e => NB3.out e.symm)).trans ((Below.heap_alloc _ _ _ hp3).trans P3.out))
        have W4 : Hid (Below w.heap.size w w4) := Lib.hid ((W3.out.alloc W3.out.size _).grown hg4.gb (by simp; omega) (fun q hq => (World.ownsRow.lt O3.out q hq).1))
        have hp4 : pb < w4.heap.size := by have := hg4.size; have := (show pb < (w3.alloc (.cells #[.string ⟨#[124, 124, 124, 124, 124, 124, 124, 32, 98, 97, 115, 101, 10]⟩] 9)).heap.size by simp; omega : pb < _); omega
        have NBv4 : v4.ownBlock ≠ some pb := fun e => by
          rcases hg4.own _ e with e2 | e2
          · exact NB3.out e2
          · have := (show pb < (w3.alloc (.cells #[.string ⟨#[124, 124, 124, 124, 124, 124, 124, 32, 98, 97, 115, 101, 10]⟩] 9)).heap.size by simp; omega : pb < _); omega
        obtain ⟨o4, ho4⟩ : ∃ o, o3 ++ [[124, 124, 124, 124, 124, 124, 124, 32, 98, 97, 115, 101, 10]] = o := ⟨_, rfl⟩
        have hol4 : o4.length = o3.length + ([[124, 124, 124, 124, 124, 124, 124, 32, 98, 97, 115, 101, 10]]).length := by rw [← ho4]; simp
        rw [ho4] at hO4
        have HO4 := Lib.hid ho4
        have HOL4 := Lib.hid hol4
        obtain ⟨la4, lc4, rfl⟩ := ownS_slice hO4
        have O4 := Lib.hid hO4
        have NB4 := Lib.hid NBv4
        have hs4 := W4.out.size
        have hob4 : o4.length + ba.length + th.length + 2 ≤ 33554432 := by rw [hol4]; simp; omega
        clear hown4 hg4 NBv4 ho4 hol4 hO4
        obtain ⟨b0, b1, b2, b3⟩ := HBX4.out w4 P4.out
        go_wp2_with fail
        refine (rclosed_any S _ ba w4 (fun q hq => by have := HS.out q hq; omega) (HLba.out w4 W4.out) (by omega) HXba.out).mono ?_
        rintro e wc ⟨vc, rfl, hoc, hbc⟩
        have OC : Hid (OwnS wc w.heap.size (.slice la4 o4.length lc4) o4) := Lib.hid (own_below O4.out (fun q _ hq => hbc.block q hq))
        have WC : Hid (Below w.heap.size w wc) := Lib.hid (W4.out.trans (hbc.mono hs4))
        have PC : Hid (wc.heap[pb]? = wp.heap[pb]?) := Lib.hid ((hbc.block pb hp4).trans P4.out)
        have hpc : pb < wc.heap.size := by have := hbc.size; omega
        have SRCC := Lib.hid (ownS_c hoc).src
        obtain ⟨cl, hcl⟩ : ∃ cl, closedN ba = cl := ⟨_, rfl⟩
        have hcll : cl.length = ba.length := by rw [← hcl, closedN_len]
        rw [hcl] at SRCC hoc
        obtain ⟨va5, vc5, rfl⟩ := ownS_slice hoc
        have HCLL := Lib.hid hcll
        have HCLE5 := Lib.hid hcl
        have hcb : cl.length ≤ 33554432 := by omega
        have hcs := WC.out.size
        clear b0 b1 b2 b3 hoc hbc hcll hcl
        go_upto_region 16 with (at_builtin; refine wpList_own_src _ rfl _ _ 24 24 rfl w.heap.size 9 i0 (.string ByteArray.empty) 1 16 Try.underlying24 hi hz0 hz1 hz2 rfl (by decide) _ _ _ rfl OC.out _ cl.length (sv cl) rfl SRCC.out (by unfold maxLen; omega) (by omega) hcs ?_; intro v5 w5 hown5 hg5)
        have hO5 : OwnS w5 w.heap.size v5 (o4 ++ cl) := ownS_more rfl hown5
        have P5 : Hid (w5.heap[pb]? = wp.heap[pb]?) := Lib.hid ((hg5.gb.block pb (hpc) (fun e => NB4.out e.symm)).trans PC.out)
        have W5 : Hid (Below w.heap.size w w5) := Lib.hid (WC.out.grown hg5.gb hcs (fun q hq => (World.ownsRow.lt O4.out q hq).1))
        have hp5 : pb < w5.heap.size := by have := hg5.size; have := (hpc : pb < _); omega
        have NBv5 : v5.ownBlock ≠ some pb := fun e => by
          rcases hg5.own _ e with e2 | e2
          · exact NB4.out e2
          · have := (hpc : pb < _); omega
        obtain ⟨o5, ho5⟩ : ∃ o, o4 ++ cl = o := ⟨_, rfl⟩
        have hol5 : o5.length = o4.length + (cl).length := by rw [← ho5]; simp
        rw [ho5] at hO5
        have HO5 := Lib.hid ho5
        have HOL5 := Lib.hid hol5
        obtain ⟨la5, lc5, rfl⟩ := ownS_slice hO5
        have O5 := Lib.hid hO5
        have NB5 := Lib.hid NBv5
        have hs5 := W5.out.size
        have hob5 : o5.length + th.length + 2 ≤ 33554432 := by have := HCLL.out; rw [hol5]; omega
        rw [← HCLE5.out] at HO5 HOL5
        clear hown5 hg5 NBv5 ho5 hol5 hO5 OC WC PC hpc SRCC HCLL hcb hcs HCLE5
        go_upto_region 17 with (at_builtin; refine wpList_own_src _ rfl _ _ 24 24 rfl w.heap.size 9 i0 (.string ByteArray.empty) 1 16 Try.underlying24 hi hz0 hz1 hz2 rfl (by decide) _ _ _ rfl (World.ownsRow.alloc O5.out _) _ 1 [.string ⟨#[61, 61, 61, 61, 61, 61, 61, 10]⟩] rfl (srcS_one _ _) (by unfold maxLen; omega) (by omega) (by simp; omega) ?_; intro v6 w6 hown6 hg6)
        have hO6 : OwnS w6 w.heap.size v6 (o5 ++ [[61, 61, 61, 61, 61, 61, 61, 10]]) := ownS_push (x := [61, 61, 61, 61, 61, 61, 61, 10]) (by exact hown6)
        have P6 : Hid (w6.heap[pb]? = wp.heap[pb]?) := Lib.hid ((hg6.gb.block pb (show pb < (w5.alloc (.cells #[.string ⟨#[61, 61, 61, 61, 61, 61, 61, 10]⟩] 9)).heap.size by simp; omega) (fun e => NB5.out e.symm)).trans ((Below.heap_alloc _ _ _ hp5).trans P5.out))
        have W6 : Hid (Below w.heap.size w w6) := Lib.hid ((W5.out.alloc W5.out.size _).grown hg6.gb (by simp; omega) (fun q hq => (World.ownsRow.lt O5.out q hq).1))
        have hp6 : pb < w6.heap.size := by have := hg6.size; have := (show pb < (w5.alloc (.cells #[.string ⟨#[61, 61, 61, 61, 61, 61, 61, 10]⟩] 9)).heap.size by simp; omega : pb < _); omega
        have NBv6 : v6.ownBlock ≠ some pb := fun e => by
          rcases hg6.own _ e with e2 | e2
          · exact NB5.out e2
          · have := (show pb < (w5.alloc (.cells #[.string ⟨#[61, 61, 61, 61, 61, 61, 61, 10]⟩] 9)).heap.size by simp; omega : pb < _); omega
        obtain ⟨o6, ho6⟩ : ∃ o, o5 ++ [[61, 61, 61, 61, 61, 61, 61, 10]] = o := ⟨_, rfl⟩
        have hol6 : o6.length = o5.length + ([[61, 61, 61, 61, 61, 61, 61, 10]]).length := by rw [← ho6]; simp
        rw [ho6] at hO6
        have HO6 := Lib.hid ho6
        have HOL6 := Lib.hid hol6
        obtain ⟨la6, lc6, rfl⟩ := ownS_slice hO6
        have O6 := Lib.hid hO6
        have NB6 := Lib.hid NBv6
        have hs6 := W6.out.size
        have hob6 : o6.length + th.length + 1 ≤ 33554432 := by rw [hol6]; simp; omega
        clear hown6 hg6 NBv6 ho6 hol6 hO6
        obtain ⟨b0, b1, b2, b3⟩ := HBX4.out w6 P6.out
        go_wp2_with fail
        refine (rclosed_any S _ th w6 (fun q hq => by have := HS.out q hq; omega) (HLth.out w6 W6.out) (by omega) HXth.out).mono ?_
        rintro e wc ⟨vc, rfl, hoc, hbc⟩
        have OC : Hid (OwnS wc w.heap.size (.slice la6 o6.length lc6) o6) := Lib.hid (own_below O6.out (fun q _ hq => hbc.block q hq))
        have WC : Hid (Below w.heap.size w wc) := Lib.hid (W6.out.trans (hbc.mono hs6))
        have PC : Hid (wc.heap[pb]? = wp.heap[pb]?) := Lib.hid ((hbc.block pb hp6).trans P6.out)
        have hpc : pb < wc.heap.size := by have := hbc.size; omega
        have SRCC := Lib.hid (ownS_c hoc).src
        obtain ⟨cl, hcl⟩ : ∃ cl, closedN th = cl := ⟨_, rfl⟩
        have hcll : cl.length = th.length := by rw [← hcl, closedN_len]
        rw [hcl] at SRCC hoc
        obtain ⟨va7, vc7, rfl⟩ := ownS_slice hoc
        have HCLL := Lib.hid hcll
        have HCLE7 := Lib.hid hcl
        have hcb : cl.length ≤ 33554432 := by omega
        have hcs := WC.out.size
        clear b0 b1 b2 b3 hoc hbc hcll hcl
        go_upto_region 18 with (at_builtin; refine wpList_own_src _ rfl _ _ 24 24 rfl w.heap.size 9 i0 (.string ByteArray.empty) 1 16 Try.underlying24 hi hz0 hz1 hz2 rfl (by decide) _ _ _ rfl OC.out _ cl.length (sv cl) rfl SRCC.out (by unfold maxLen; omega) (by omega) hcs ?_; intro v7 w7 hown7 hg7)
        have hO7 : OwnS w7 w.heap.size v7 (o6 ++ cl) := ownS_more rfl hown7
        have P7 : Hid (w7.heap[pb]? = wp.heap[pb]?) := Lib.hid ((hg7.gb.block pb (hpc) (fun e => NB6.out e.symm)).trans PC.out)
        have W7 : Hid (Below w.heap.size w w7) := Lib.hid (WC.out.grown hg7.gb hcs (fun q hq => (World.ownsRow.lt O6.out q hq).1))
        have hp7 : pb < w7.heap.size := by have := hg7.size; have := (hpc : pb < _); omega
        have NBv7 : v7.ownBlock ≠ some pb := fun e => by
          rcases hg7.own _ e with e2 | e2
          · exact NB6.out e2
          · have := (hpc : pb < _); omega
        obtain ⟨o7, ho7⟩ : ∃ o, o6 ++ cl = o := ⟨_, rfl⟩
        have hol7 : o7.length = o6.length + (cl).length := by rw [← ho7]; simp
        rw [ho7] at hO7
        have HO7 := Lib.hid ho7
        have HOL7 := Lib.hid hol7
        obtain ⟨la7, lc7, rfl⟩ := ownS_slice hO7
        have O7 := Lib.hid hO7
        have NB7 := Lib.hid NBv7
        have hs7 := W7.out.size
        have hob7 : o7.length + 1 ≤ 33554432 := by have := HCLL.out; rw [hol7]; omega
        rw [← HCLE7.out] at HO7 HOL7
        clear hown7 hg7 NBv7 ho7 hol7 hO7 OC WC PC hpc SRCC HCLL hcb hcs HCLE7
        go_wp2_with (at_builtin; refine wpList_own_src _ rfl _ _ 24 24 rfl w.heap.size 9 i0 (.string ByteArray.empty) 1 16 Try.underlying24 hi hz0 hz1 hz2 rfl (by decide) _ _ _ rfl (World.ownsRow.alloc O7.out _) _ 1 [.string ((⟨#[62, 62, 62, 62, 62, 62, 62, 32]⟩ : ByteArray) ++ (⟨st.toArray⟩ : ByteArray) ++ (⟨#[10]⟩ : ByteArray))] rfl (srcS_one _ _) (by unfold maxLen; omega) (by omega) (by simp; omega) ?_; intro v8 w8 hown8 hg8)
        have hO8 : OwnS w8 w.heap.size v8 (o7 ++ [foot]) := ownS_push (x := foot) (by rw [← E2.out]; exact hown8)
        have P8 : Hid (w8.heap[pb]? = wp.heap[pb]?) := Lib.hid ((hg8.gb.block pb (show pb < (w7.alloc (.cells #[.string ((⟨#[62, 62, 62, 62, 62, 62, 62, 32]⟩ : ByteArray) ++ (⟨st.toArray⟩ : ByteArray) ++ (⟨#[10]⟩ : ByteArray))] 9)).heap.size by simp; omega) (fun e => NB7.out e.symm)).trans ((Below.heap_alloc _ _ _ hp7).trans P7.out))
        have W8 : Hid (Below w.heap.size w w8) := Lib.hid ((W7.out.alloc W7.out.size _).grown hg8.gb (by simp; omega) (fun q hq => (World.ownsRow.lt O7.out q hq).1))
        have hp8 : pb < w8.heap.size := by have := hg8.size; have := (show pb < (w7.alloc (.cells #[.string ((⟨#[62, 62, 62, 62, 62, 62, 62, 32]⟩ : ByteArray) ++ (⟨st.toArray⟩ : ByteArray) ++ (⟨#[10]⟩ : ByteArray))] 9)).heap.size by simp; omega : pb < _); omega
        have NBv8 : v8.ownBlock ≠ some pb := fun e => by
          rcases hg8.own _ e with e2 | e2
          · exact NB7.out e2
          · have := (show pb < (w7.alloc (.cells #[.string ((⟨#[62, 62, 62, 62, 62, 62, 62, 32]⟩ : ByteArray) ++ (⟨st.toArray⟩ : ByteArray) ++ (⟨#[10]⟩ : ByteArray))] 9)).heap.size by simp; omega : pb < _); omega
        obtain ⟨o8, ho8⟩ : ∃ o, o7 ++ [foot] = o := ⟨_, rfl⟩
        have hol8 : o8.length = o7.length + ([foot]).length := by rw [← ho8]; simp
        rw [ho8] at hO8
        have HO8 := Lib.hid ho8
        have HOL8 := Lib.hid hol8
        obtain ⟨la8, lc8, rfl⟩ := ownS_slice hO8
        have O8 := Lib.hid hO8
        have NB8 := Lib.hid NBv8
        have hs8 := W8.out.size
        have hob8 : o8.length ≤ 33554432 := by rw [hol8]; simp; omega
        clear hown8 hg8 NBv8 ho8 hol8 hO8
        have HFF : Hid (o8 = o0 ++ text1 head foot ⟨kd, ba, ou, th⟩) := Lib.hid (by rw [HT.out, ← HO8.out, ← HO7.out, ← HO6.out, ← HO5.out, ← HO4.out, ← HO3.out, ← HO2.out, HO1.out]; simp)
        have HLL : Hid (o8.length = o0.length + ba.length + ou.length + th.length + 4) := Lib.hid (by rw [HFF.out, HT.out]; simp [closedN_len]; omega)
        go_wp2_with fail
        go_roundw
        case rel => exact ⟨k + 1, o8, false, by omega, by go_num, rfl, by omega, Lib.hid (by have := HN2.out; rw [HLL.out]; omega), Lib.hid (by rw [← HQ2.out, HC1.out]; simp), Lib.hid (by rw [← HE2.out, HFF.out, List.append_assoc]), O8, W8⟩
        case measure => simp [intOf]; omega
    · have hkl : ps.drop k = [] := List.drop_eq_nil_of_le (by omega)
      have HQF : Hid (q = cm) := Lib.hid (by rw [← hQ.out, hkl]; show q = (q && true); rw [Bool.and_true])
      have HEF : Hid (o0 = out) := Lib.hid (by rw [← hE.out, hkl]; show o0 = o0 ++ []; rw [List.append_nil])
      clear hkl hQ hE hN
      go_wp2_with fail
      go_ret2
      exact ⟨_, by rw [HQF.out]; rfl, by rw [← HEF.out]; exact hO.out, hW.out⟩
end Go.Proofs.Ytfiogjdjcocbnaa
