/- The walk of Text. -/
import Derived.Test.YtjlpdoppnhcjoaaDoorWeavG
import Derived.Test.YtjlpdoppnhcjoaaDoorLinAll
namespace Go.Proofs.YtjlpdoppnhcjoaaDoor
open Go.RowKit
attribute [local go_sem ↓] Go.wp_at_zero Go.wp_at_succ

/-- A part in memory. -/
def partRel (S : Nat → Prop) (w : World) (p : PartN (List UInt8)) (cs : List Value) : Prop := ∃ v1 v2 v3, cs = [.int .i64 p.kind, v1, v2, v3] ∧ StrsC S w v1 p.base ∧ StrsC S w v2 p.ours ∧ StrsC S w v3 p.theirs
theorem part_keeps : Keeps partRel := by
  rintro S S' w w' h cs ⟨v1, v2, v3, rfl, h1, h2, h3⟩ hk
  exact ⟨v1, v2, v3, rfl, h1.kept hk, h2.kept hk, h3.kept hk⟩
abbrev PartsC := RowsC partRel 4
theorem part_at {S : Nat → Prop} {w : World} {a : Option Addr} {c : Nat} {ps : List (PartN (List UInt8))} (h : PartsC S w (.slice a ps.length c) ps) (hn : 0 < ps.length) :
    ∃ g o, a = some ⟨g, o, none⟩ ∧ S g ∧ ps.length ≤ c ∧ c ≤ 9223372036854775807 ∧ ∀ k p, ps[k]? = some p → ∃ a1 c1 a2 c2 a3 c3, w.cell? ⟨g, o + k * 4, none⟩ = some (.int .i64 p.kind) ∧ w.cell? ⟨g, o + k * 4 + 1, none⟩ = some (.slice a1 p.base.length c1) ∧ w.cell? ⟨g, o + k * 4 + 2, none⟩ = some (.slice a2 p.ours.length c2) ∧ w.cell? ⟨g, o + k * 4 + 3, none⟩ = some (.slice a3 p.theirs.length c3) ∧
      StrsC S w (.slice a1 p.base.length c1) p.base ∧ StrsC S w (.slice a2 p.ours.length c2) p.ours ∧ StrsC S w (.slice a3 p.theirs.length c3) p.theirs := by
  obtain ⟨g, o, h1, h2, h3, h4, h5⟩ := h.at hn
  refine ⟨g, o, h1, h2, h3, h4, fun k p hp => ?_⟩
  obtain ⟨cs, hcl, ⟨v1, v2, v3, rfl, r1, r2, r3⟩, hc⟩ := h5 k p hp
  obtain ⟨a1, c1, rfl⟩ := r1.shape
  obtain ⟨a2, c2, rfl⟩ := r2.shape
  obtain ⟨a3, c3, rfl⟩ := r3.shape
  exact ⟨a1, c1, a2, c2, a3, c3, by simpa using hc 0 _ rfl, by simpa [Nat.add_assoc] using hc 1 _ rfl, by simpa [Nat.add_assoc] using hc 2 _ rfl, by simpa [Nat.add_assoc] using hc 3 _ rfl, r1, r2, r3⟩
theorem closedN_len (l : List (List UInt8)) : (closedN l).length = l.length := by
  unfold closedN
  cases h : l.getLast? with
  | none => rfl
  | some x =>
    have hne : l ≠ [] := fun e => by rw [e] at h; cases h
    have : 0 < l.length := List.length_pos_iff.2 hne
    simp only []
    split
    · rfl
    · simp; omega
def partsN (l : List (PartN (List UInt8))) : Nat := (l.map fun p => p.base.length + p.ours.length + p.theirs.length + 4).sum
theorem partsN_cons (p : PartN (List UInt8)) (l : List (PartN (List UInt8))) : partsN (p :: l) = p.base.length + p.ours.length + p.theirs.length + 4 + partsN l := by unfold partsN; simp
def headN (s : List UInt8) : List UInt8 := [60, 60, 60, 60, 60, 60, 60, 32] ++ s ++ [10]
def footN (s : List UInt8) : List UInt8 := [62, 62, 62, 62, 62, 62, 62, 32] ++ s ++ [10]
set_option maxRecDepth 100000 in
set_option maxHeartbeats 8000000 in
theorem text_any (S : Nat → Prop) (vp : Value) (ps : List (PartN (List UInt8))) (so st : List UInt8) (w : World) (hS : ∀ k, S k → k < w.heap.size) (hp : PartsC S w vp ps) (hpl : ps.length ≤ 4194304) (hx : ∀ p ∈ ps, (∀ x ∈ p.base, x.length ≤ 4194304) ∧ (∀ x ∈ p.ours, x.length ≤ 4194304) ∧ (∀ x ∈ p.theirs, x.length ≤ 4194304)) (hn : partsN ps ≤ 33554432) (hso : so.length ≤ 4194304) (hst : st.length ≤ 4194304) :
    Calls Tryd.prog 56 #[vp, .string ⟨so.toArray⟩, .string ⟨st.toArray⟩] w fun e w' => ∃ v, e = .returned (.tuple #[v, .bool (calmN ps)]) ∧ OwnS w' w.heap.size v (textN (headN so) (footN st) ps) ∧ Below w.heap.size w w' := by
  obtain ⟨i0, hi, hz0, hz1, hz2⟩ := info_parts Tryd.info9s
  obtain ⟨pa, pc, rfl⟩ := hp.shape
  have HS := Lib.hid hS
  have HP := Lib.hid (fun (W : World) (h : Below w.heap.size w W) => hp.kept part_keeps (S' := S) (w' := W) (fun k hk => ⟨hk, h.block k (hS k hk)⟩))
  have HX := Lib.hid hx
  have HR := Lib.hid (Below.refl w.heap.size w)
  have e1 : (⟨#[60, 60, 60, 60, 60, 60, 60, 32]⟩ : ByteArray) ++ (⟨so.toArray⟩ : ByteArray) ++ (⟨#[10]⟩ : ByteArray) = ⟨(headN so).toArray⟩ := by
    apply ByteArray.ext; simp [headN]
  have e2 : (⟨#[62, 62, 62, 62, 62, 62, 62, 32]⟩ : ByteArray) ++ (⟨st.toArray⟩ : ByteArray) ++ (⟨#[10]⟩ : ByteArray) = ⟨(footN st).toArray⟩ := by
    apply ByteArray.ext; simp [footN]
  have E1 := Lib.hid e1
  have E2 := Lib.hid e2
  obtain ⟨head, hh⟩ : ∃ h, headN so = h := ⟨_, rfl⟩
  obtain ⟨foot, hf⟩ : ∃ h, footN st = h := ⟨_, rfl⟩
  rw [hh, hf]
  rw [hh] at E1
  rw [hf] at E2
  obtain ⟨out, hout⟩ : ∃ o, textN head foot ps = o := ⟨_, rfl⟩
  obtain ⟨cm, hcm⟩ : ∃ o, calmN ps = o := ⟨_, rfl⟩
  rw [hout, hcm]
  have HOUT := Lib.hid hout
  have HCM := Lib.hid hcm
  have HN := Lib.hid hn
  clear hS hp hx e1 e2 hh hf hout hcm
  go_enter Tryd.func56, Tryd.ntmps56
  go_upto_region 2 with fail
  rw [E1.out, E2.out]
  clear hso hst
  go_wp2_with fail
  go_loopw [10, 11, 22] (fun l c i wr => ∃ (k : Nat) (o0 : List (List UInt8)) (q : Bool), k ≤ ps.length ∧ i = .int .i64 k ∧ c = .bool q ∧ o0.length ≤ 33554432 ∧ Hid (o0.length + partsN (ps.drop k) ≤ partsN ps) ∧ Hid ((q && calmN (ps.drop k)) = cm) ∧ Hid (o0 ++ textN head foot (ps.drop k) = out) ∧ Hid (OwnS wr w.heap.size l o0) ∧ Hid (Below w.heap.size w wr)) (fun _ _ i _ => ps.length - (intOf i).toNat)
  case atStart => exact ⟨0, [], true, Nat.zero_le _, rfl, rfl, by simp, Lib.hid (by simp), Lib.hid (by rw [← HCM.out]; rfl), Lib.hid HOUT.out, Lib.hid (ownS_nil _ _), HR⟩
  case round =>
    obtain ⟨k, o0, q, hk, rfl, rfl, hob0, hN, hQ, hE, hO, hW⟩ := hrel
    obtain ⟨la0, lc0, rfl⟩ := ownS_slice hO.out
    have hsz := hW.out.size
    by_cases hlt : k < ps.length
    · obtain ⟨g, og, rfl, hSg, _, _, hcs⟩ := part_at (HP.out wr hW.out) (by omega)
      obtain ⟨p, hh⟩ : ∃ p, ps[k]? = some p := ⟨_, List.getElem?_eq_getElem hlt⟩
      have hd : ps.drop k = p :: ps.drop (k + 1) := drop_one hh
      obtain ⟨x1, x2, x3⟩ := HX.out p (List.mem_of_getElem? hh)
      obtain ⟨aba, cba, aou, cou, ath, cth, z0, z1, z2, z3, r1, r2, r3⟩ := hcs k p hh
      obtain ⟨kd, ba, ou, th⟩ := p
      simp only at z0 z1 z2 z3 r1 r2 r3 x1 x2 x3
      have hN2 := hN.out
      have hQ2 := hQ.out
      have hE2 := hE.out
      rw [hd] at hN2 hQ2 hE2
      rw [partsN_cons] at hN2
      simp only at hN2
      have HN2 := Lib.hid hN2
      have hnb := HN.out
      have hbal : ba.length ≤ 33554432 := by omega
      have houl : ou.length ≤ 33554432 := by omega
      have hthl : th.length ≤ 33554432 := by omega
      have hall : o0.length + ba.length + ou.length + th.length + 4 ≤ 33554432 := by omega
      have HQ2 : Hid ((q && (calm1 (⟨kd, ba, ou, th⟩ : PartN (List UInt8)) && calmN (ps.drop (k + 1)))) = cm) := Lib.hid hQ2
      have HE2 : Hid (o0 ++ (text1 head foot ⟨kd, ba, ou, th⟩ ++ textN head foot (ps.drop (k + 1))) = out) := Lib.hid hE2
      have HXba := Lib.hid x1
      have HXou := Lib.hid x2
      have HXth := Lib.hid x3
      have HLba := Lib.hid (fun (W : World) (h : Below w.heap.size w W) => r1.kept (S' := S) (w' := W) (fun q hq => ⟨hq, (h.block q (HS.out q hq)).trans (hW.out.block q (HS.out q hq)).symm⟩))
      have HLou := Lib.hid (fun (W : World) (h : Below w.heap.size w W) => r2.kept (S' := S) (w' := W) (fun q hq => ⟨hq, (h.block q (HS.out q hq)).trans (hW.out.block q (HS.out q hq)).symm⟩))
      have HLth := Lib.hid (fun (W : World) (h : Below w.heap.size w W) => r3.kept (S' := S) (w' := W) (fun q hq => ⟨hq, (h.block q (HS.out q hq)).trans (hW.out.block q (HS.out q hq)).symm⟩))
      have O1 : Hid (OwnS (wr.alloc (.cells #[.int .i64 kd, .slice aba ba.length cba, .slice aou ou.length cou, .slice ath th.length cth] 134)) w.heap.size (.slice la0 o0.length lc0) o0) := Lib.hid (World.ownsRow.alloc hO.out _)
      have W1 : Hid (Below w.heap.size w (wr.alloc (.cells #[.int .i64 kd, .slice aba ba.length cba, .slice aou ou.length cou, .slice ath th.length cth] 134))) := Lib.hid (hW.out.alloc hsz _)
      have HBX := Lib.hid (new_five wr #[.int .i64 kd, .slice aba ba.length cba, .slice aou ou.length cou, .slice ath th.length cth] 134)
      have NB0 : Hid ((Value.slice la0 o0.length lc0).ownBlock ≠ some wr.heap.size) := Lib.hid (fun e => by have := (World.ownsRow.lt hO.out _ e).2; omega)
      have hlt2 : wr.heap.size < (wr.alloc (.cells #[.int .i64 kd, .slice aba ba.length cba, .slice aou ou.length cou, .slice ath th.length cth] 134)).heap.size := by simp
      clear hcs hh hd r1 r2 r3 x1 x2 x3 hN hQ hE hN2 hQ2 hE2 hnb
      go_upto_region 7 with fail
      clear z0 z1 z2 z3 hO hW
      have HBX4 : Hid (∀ W : World, W.heap[wr.heap.size]? = (wr.alloc (.cells #[.int .i64 kd, .slice aba ba.length cba, .slice aou ou.length cou, .slice ath th.length cth] 134)).heap[wr.heap.size]? → W.cell? ⟨wr.heap.size, 0, none⟩ = some (.int .i64 kd) ∧ W.cell? ⟨wr.heap.size, 1, none⟩ = some (.slice aba ba.length cba) ∧ W.cell? ⟨wr.heap.size, 2, none⟩ = some (.slice aou ou.length cou) ∧ W.cell? ⟨wr.heap.size, 3, none⟩ = some (.slice ath th.length cth)) := Lib.hid (fun W hW => box4 HBX.out hW)
      have hszb : w.heap.size ≤ (wr.alloc (.cells #[.int .i64 kd, .slice aba ba.length cba, .slice aou ou.length cou, .slice ath th.length cth] 134)).heap.size := by omega
      clear HBX
      generalize wr.alloc (.cells #[.int .i64 kd, .slice aba ba.length cba, .slice aou ou.length cou, .slice ath th.length cth] 134) = wp at *
      generalize wr.heap.size = pb at *
      obtain ⟨b0, b1, b2, b3⟩ := HBX4.out wp rfl
      have hkd : (kd = 0 ∨ kd = 1 ∨ kd = 3) ∨ kd = 2 ∨ (kd ≠ 0 ∧ kd ≠ 1 ∧ kd ≠ 3 ∧ kd ≠ 2) := by omega
      rcases hkd with hkd | hkd | ⟨n0, n1, n3, n2⟩
      · have HT : Hid (text1 head foot ⟨kd, ba, ou, th⟩ = ou) := Lib.hid (if_pos hkd)
        have HC1 : Hid (calm1 (⟨kd, ba, ou, th⟩ : PartN (List UInt8)) = true) := Lib.hid (decide_eq_true (by show kd = 0 ∨ kd = 1 ∨ kd = 3 ∨ kd = 2; omega))
        have SRC : Hid (Src Tryd.prog 1 85 (.slice aou ou.length cou) ou.length (sv ou) wp) := Lib.hid (HLou.out wp W1.out).src
        rcases hkd with hc | hc | hc
        all_goals
          have g0 : (kd == 0) = decide (kd = 0) := rfl
          have g1 : (kd == 1) = decide (kd = 1) := rfl
          have g3 : (kd == 3) = decide (kd = 3) := rfl
          rw [hc] at g0 g1 g3
          go_wp2_with (at_builtin; refine wpList_own_src _ rfl _ _ 85 85 rfl w.heap.size 9 i0 (.string ByteArray.empty) 1 16 Tryd.underlying85 hi hz0 hz1 hz2 rfl (by decide) _ _ _ rfl O1.out _ ou.length (sv ou) rfl SRC.out (by unfold maxLen; omega) (by omega) hszb ?_)
          intro v5 w5 hown5 hg5
          have O5 : Hid (OwnS w5 w.heap.size v5 (o0 ++ ou)) := Lib.hid (ownS_more rfl hown5)
          have W5 : Hid (Below w.heap.size w w5) := Lib.hid (W1.out.grown hg5.gb hszb (fun q hq => (World.ownsRow.lt O1.out q hq).1))
          clear hown5 hg5 b0 b1 b2 b3 g0 g1 g3
          go_wp2_with fail
          go_roundw
          case rel => exact ⟨k + 1, o0 ++ ou, q, by omega, by go_num, rfl, by simp; omega, Lib.hid (by have := HN2.out; simp; omega), Lib.hid (by rw [← HQ2.out, HC1.out, Bool.true_and]), Lib.hid (by rw [← HE2.out, HT.out, List.append_assoc]), O5, W5⟩
          case measure => simp [intOf]; omega
      · have HT : Hid (text1 head foot ⟨kd, ba, ou, th⟩ = th) := Lib.hid ((if_neg (by show ¬ (kd = 0 ∨ kd = 1 ∨ kd = 3); omega)).trans (if_pos hkd))
        have HC1 : Hid (calm1 (⟨kd, ba, ou, th⟩ : PartN (List UInt8)) = true) := Lib.hid (decide_eq_true (by show kd = 0 ∨ kd = 1 ∨ kd = 3 ∨ kd = 2; omega))
        have SRC : Hid (Src Tryd.prog 1 85 (.slice ath th.length cth) th.length (sv th) wp) := Lib.hid (HLth.out wp W1.out).src
        have g0 : (kd == 0) = false := by rw [hkd]; rfl
        have g1 : (kd == 1) = false := by rw [hkd]; rfl
        have g3 : (kd == 3) = false := by rw [hkd]; rfl
        have g2 : (kd == 2) = true := by rw [hkd]; rfl
        clear hkd
        go_wp2_with (at_builtin; refine wpList_own_src _ rfl _ _ 85 85 rfl w.heap.size 9 i0 (.string ByteArray.empty) 1 16 Tryd.underlying85 hi hz0 hz1 hz2 rfl (by decide) _ _ _ rfl O1.out _ th.length (sv th) rfl SRC.out (by unfold maxLen; omega) (by omega) hszb ?_)
        intro v5 w5 hown5 hg5
        have O5 : Hid (OwnS w5 w.heap.size v5 (o0 ++ th)) := Lib.hid (ownS_more rfl hown5)
        have W5 : Hid (Below w.heap.size w w5) := Lib.hid (W1.out.grown hg5.gb hszb (fun q hq => (World.ownsRow.lt O1.out q hq).1))
        clear hown5 hg5 b0 b1 b2 b3 g0 g1 g3 g2
        go_wp2_with fail
        go_roundw
        case rel => exact ⟨k + 1, o0 ++ th, q, by omega, by go_num, rfl, by simp; omega, Lib.hid (by have := HN2.out; simp; omega), Lib.hid (by rw [← HQ2.out, HC1.out, Bool.true_and]), Lib.hid (by rw [← HE2.out, HT.out, List.append_assoc]), O5, W5⟩
        case measure => simp [intOf]; omega
      · have HT : Hid (text1 head foot ⟨kd, ba, ou, th⟩ = [head] ++ closedN ou ++ [[124, 124, 124, 124, 124, 124, 124, 32, 98, 97, 115, 101, 10]] ++ closedN ba ++ [[61, 61, 61, 61, 61, 61, 61, 10]] ++ closedN th ++ [foot]) := Lib.hid ((if_neg (by show ¬ (kd = 0 ∨ kd = 1 ∨ kd = 3); omega)).trans (if_neg n2))
        have HC1 : Hid (calm1 (⟨kd, ba, ou, th⟩ : PartN (List UInt8)) = false) := Lib.hid (decide_eq_false (by show ¬ (kd = 0 ∨ kd = 1 ∨ kd = 3 ∨ kd = 2); omega))
        have g0 : (kd == 0) = false := by rw [beq_eq_false_iff_ne]; exact n0
        have g1 : (kd == 1) = false := by rw [beq_eq_false_iff_ne]; exact n1
        have g3 : (kd == 3) = false := by rw [beq_eq_false_iff_ne]; exact n3
        have g2 : (kd == 2) = false := by rw [beq_eq_false_iff_ne]; exact n2
        clear n0 n1 n2 n3
        go_upto_region 9 with fail
        clear b0 b1 b2 b3 g0 g1 g3 g2
        obtain ⟨w1, hw1⟩ : ∃ W, W = wp := ⟨_, rfl⟩
        have P1 : Hid (w1.heap[pb]? = wp.heap[pb]?) := Lib.hid (by rw [hw1])
        rw [← hw1] at O1 W1 hlt2 hszb ⊢
        have hp1 : pb < w1.heap.size := hlt2
        have NB1 := NB0
        obtain ⟨o1, ho1⟩ : ∃ o1, o1 = o0 := ⟨_, rfl⟩
        have HO1 := Lib.hid ho1
        rw [← ho1] at O1 NB1 hall hob0 ⊢
        clear hw1 ho1 hlt2 hszb NB0
        obtain ⟨la1, hla1⟩ : ∃ a, a = la0 := ⟨_, rfl⟩
        obtain ⟨lc1, hlc1⟩ : ∃ a, a = lc0 := ⟨_, rfl⟩
        rw [← hla1, ← hlc1] at O1 NB1 ⊢
        clear hla1 hlc1
        have HF : Hid (∀ W : World, W.heap[pb]? = wp.heap[pb]? → W.cell? ⟨pb, 2, none⟩ = some (.slice aou ou.length cou)) := Lib.hid (fun W hW => (HBX4.out W hW).2.2.1)
        go_upto_region 9 with fail
        refine wp_region_held_drew (S := (fun W => W.cell? ⟨pb, 2, none⟩ = some (.slice aou ou.length cou))) (by kernel_rfl) (by exact HF.out _ P1.out) (fun hHeld => ?_)
        have PD : Hid (w1.drew.heap[pb]? = wp.heap[pb]?) := Lib.hid P1.out
        have OD : Hid (OwnS w1.drew w.heap.size (.slice la1 o1.length lc1) o1) := Lib.hid (own_below O1.out (fun _ _ _ => rfl))
        have WD : Hid (Below w.heap.size w w1.drew) := Lib.hid (W1.out.trans (drewn _ w1 1))
        have hpd : pb < w1.drew.heap.size := hp1
        clear P1 O1 W1 hp1
        generalize w1.drew = wd at *
        refine wpAnyH_take (i := 0) (oi := ⟨_, _, _, _, _, _⟩) (v := ?_) rfl (by kernel_rfl) (by kernel_rfl) (by kernel_rfl) (fun _ _ _ h => h) (Or.inl ⟨by rfl, ?_⟩) (by assumption) ?_
        rotate_left
        · intro w hSw; (try dsimp only at hSw); first | (go_simp; done) | (go_simp; with_reducible rfl)
        try simp only [Act.put, List.setIfInBounds_toArray, List.set_cons_zero, List.set_cons_succ]
        refine wpAnyH_take (i := 1) (oi := ⟨_, _, _, _, _, _⟩) (v := ?_) rfl (by kernel_rfl) (by kernel_rfl) (by kernel_rfl) (fun _ _ _ h => h) (Or.inl ⟨by rfl, ?_⟩) (by assumption) ?_
        rotate_left
        · intro w hSw; (try dsimp only at hSw); first | (go_simp; done) | (go_simp; with_reducible rfl)
        try simp only [Act.put, List.setIfInBounds_toArray, List.set_cons_zero, List.set_cons_succ]
        refine wpAnyH_take (i := 4) (oi := ⟨_, _, _, _, _, _⟩) (v := ?_) rfl (by kernel_rfl) (by kernel_rfl) (by kernel_rfl) (fun _ _ _ h => h) (Or.inl ⟨by rfl, ?_⟩) (by assumption) ?_
        rotate_left
        · intro w hSw; (try dsimp only at hSw); first | (go_simp; done) | (go_simp; with_reducible rfl)
        try simp only [Act.put, List.setIfInBounds_toArray, List.set_cons_zero, List.set_cons_succ]
        refine wpAnyH_take (i := 5) (oi := ⟨_, _, _, _, _, _⟩) (v := ?_) rfl (by kernel_rfl) (by kernel_rfl) (by kernel_rfl) (fun _ _ _ h => h) (Or.inl ⟨by rfl, ?_⟩) (by assumption) ?_
        rotate_left
        · intro w hSw; (try dsimp only at hSw); first | (go_simp; done) | (go_simp; with_reducible rfl)
        try simp only [Act.put, List.setIfInBounds_toArray, List.set_cons_zero, List.set_cons_succ]
        refine wpAnyH_ready (rs := [2]) (by kernel_rfl) (by simp) ?_
        refine AllReadyH.cons (o := ⟨_, _, _, _, _, _⟩) rfl (fun K hK => ?_) AllReadyH.nil
        go_simp
        refine any_step (fun w7 hN => ?_)
        have P7 : Hid (w7.heap[pb]? = wp.heap[pb]?) := Lib.hid (by rw [hN]; exact (Below.heap_alloc _ _ _ hpd).trans PD.out)
        have O7 : Hid (OwnS w7 w.heap.size (.slice la1 o1.length lc1) o1) := Lib.hid (by rw [hN]; exact World.ownsRow.alloc OD.out _)
        have W7 : Hid (Below w.heap.size w w7) := Lib.hid (by rw [hN]; exact WD.out.alloc WD.out.size _)
        have SRC7 : Hid (Src Tryd.prog 1 85 (.slice (some ⟨wd.heap.size, 0, none⟩) 1 1) 1 [.string ⟨head.toArray⟩] w7) := Lib.hid (by rw [hN]; exact srcS_one wd _)
        have hp7 : pb < w7.heap.size := by rw [hN]; simp; omega
        clear hN PD OD WD hpd
        try go_wp2_with fail
        refine hK.out _ _ (by exact HF.out _ (Hid.out (by assumption))) (fun hHeld => ?_)
        clear hK K
        try simp only [Act.put, List.setIfInBounds_toArray, List.set_cons_zero, List.set_cons_succ]
        refine wpAnyH_ready (rs := [3]) (by kernel_rfl) (by simp) ?_
        refine AllReadyH.cons (o := ⟨_, _, _, _, _, _⟩) rfl (fun K hK => ?_) AllReadyH.nil
        refine step_own_src _ rfl _ _ 85 85 (by rfl) w.heap.size 9 i0 (.string ByteArray.empty) 1 16 Tryd.underlying85 hi hz0 hz1 hz2 rfl (by decide) _ _ _ (by rfl) O7.out _ _ _ (by rfl) SRC7.out (by unfold maxLen; omega) (by omega) W7.out.size ?_
        intro v8 w8 hown8 hg8
        have P8 : Hid (w8.heap[pb]? = wp.heap[pb]?) := Lib.hid ((hg8.gb.block pb hp7 (fun e => NB1.out e.symm)).trans P7.out)
        have O8 : Hid (OwnS w8 w.heap.size v8 (o1 ++ [head])) := Lib.hid (ownS_push (x := head) hown8)
        have W8 : Hid (Below w.heap.size w w8) := Lib.hid (W7.out.grown hg8.gb W7.out.size (fun q hq => (World.ownsRow.lt O7.out q hq).1))
        have NB8 : Hid (v8.ownBlock ≠ some pb) := Lib.hid (fun e => by rcases hg8.own _ e with e2 | e2; exact NB1.out e2; omega)
        have hp8 : pb < w8.heap.size := by have := hg8.size; omega
        clear hown8 hg8 P7 O7 W7 SRC7 hp7
        refine hK.out _ _ (by exact HF.out _ (Hid.out (by assumption))) (fun hHeld => ?_)
        clear hK K
        try simp only [Act.put, List.setIfInBounds_toArray, List.set_cons_zero, List.set_cons_succ]
        refine wpAnyH_ready (rs := [6]) (by kernel_rfl) (by simp) ?_
        refine AllReadyH.cons (o := ⟨_, _, _, _, _, _⟩) rfl (fun K hK => ?_) AllReadyH.nil
        go_simp
        refine (closed_any S w.heap.size v8 _ (o1 ++ [head]) ou w8 W8.out.size O8.out (HLou.out w8 W8.out) (by simp; omega) (by omega) HXou.out).mono ?_
        rintro e w2 ⟨v2, rfl, hO, hg⟩
        have P2 : Hid (w2.heap[pb]? = wp.heap[pb]?) := Lib.hid ((hg.gb.block pb hp8 (fun e => NB8.out e.symm)).trans P8.out)
        have W2 : Hid (Below w.heap.size w w2) := Lib.hid (W8.out.grown hg.gb W8.out.size (fun q hq => (World.ownsRow.lt O8.out q hq).1))
        have hp2 : pb < w2.heap.size := by have := hg.size; omega
        obtain ⟨o2, ho2⟩ : ∃ o, (o1 ++ [head]) ++ closedN ou = o := ⟨_, rfl⟩
        have hol2 : o2.length = o1.length + 1 + ou.length := by rw [← ho2]; simp [closedN_len]; omega
        rw [ho2] at hO
        have HO2 := Lib.hid ho2
        obtain ⟨la2, lc2, rfl⟩ := ownS_slice hO
        have O2 := Lib.hid hO
        have NB2 : Hid ((Value.slice la2 o2.length lc2).ownBlock ≠ some pb) := Lib.hid (fun e => by rcases hg.own _ e with e2 | e2; exact NB8.out e2; omega)
        have HOL2 := Lib.hid hol2
        have hob2 : o2.length + ba.length + th.length + 3 ≤ 33554432 := by omega
        clear hO hg P8 O8 W8 hp8 NB8 ho2 hol2
        try go_wp2_with fail
        refine hK.out _ _ (by exact HF.out _ (Hid.out (by assumption))) (fun hHeld => ?_)
        clear hK K
        try simp only [Act.put, List.setIfInBounds_toArray, List.set_cons_zero, List.set_cons_succ]
        refine wpAnyH_take (i := 7) (oi := ⟨_, _, _, _, _, _⟩) (v := ?_) rfl (by kernel_rfl) (by kernel_rfl) (by kernel_rfl) (fun _ _ _ h => h) (Or.inl ⟨by rfl, ?_⟩) (by assumption) ?_
        rotate_left
        · intro w hSw; (try dsimp only at hSw); first | (go_simp; done) | (go_simp; with_reducible rfl)
        try simp only [Act.put, List.setIfInBounds_toArray, List.set_cons_zero, List.set_cons_succ]
        refine wpAnyH_done (by kernel_rfl) ?_ _
        clear hHeld HF
        have HF : Hid (∀ W : World, W.heap[pb]? = wp.heap[pb]? → W.cell? ⟨pb, 1, none⟩ = some (.slice aba ba.length cba)) := Lib.hid (fun W hW => (HBX4.out W hW).2.1)
        go_upto_region 10 with fail
        refine wp_region_held_drew (S := (fun W => W.cell? ⟨pb, 1, none⟩ = some (.slice aba ba.length cba))) (by kernel_rfl) (by exact HF.out _ P2.out) (fun hHeld => ?_)
        have PD : Hid (w2.drew.heap[pb]? = wp.heap[pb]?) := Lib.hid P2.out
        have OD : Hid (OwnS w2.drew w.heap.size (.slice la2 o2.length lc2) o2) := Lib.hid (own_below O2.out (fun _ _ _ => rfl))
        have WD : Hid (Below w.heap.size w w2.drew) := Lib.hid (W2.out.trans (drewn _ w2 1))
        have hpd : pb < w2.drew.heap.size := hp2
        clear P2 O2 W2 hp2
        generalize w2.drew = wd at *
        refine wpAnyH_take (i := 0) (oi := ⟨_, _, _, _, _, _⟩) (v := ?_) rfl (by kernel_rfl) (by kernel_rfl) (by kernel_rfl) (fun _ _ _ h => h) (Or.inl ⟨by rfl, ?_⟩) (by assumption) ?_
        rotate_left
        · intro w hSw; (try dsimp only at hSw); first | (go_simp; done) | (go_simp; with_reducible rfl)
        try simp only [Act.put, List.setIfInBounds_toArray, List.set_cons_zero, List.set_cons_succ]
        refine wpAnyH_take (i := 3) (oi := ⟨_, _, _, _, _, _⟩) (v := ?_) rfl (by kernel_rfl) (by kernel_rfl) (by kernel_rfl) (fun _ _ _ h => h) (Or.inl ⟨by rfl, ?_⟩) (by assumption) ?_
        rotate_left
        · intro w hSw; (try dsimp only at hSw); first | (go_simp; done) | (go_simp; with_reducible rfl)
        try simp only [Act.put, List.setIfInBounds_toArray, List.set_cons_zero, List.set_cons_succ]
        refine wpAnyH_take (i := 4) (oi := ⟨_, _, _, _, _, _⟩) (v := ?_) rfl (by kernel_rfl) (by kernel_rfl) (by kernel_rfl) (fun _ _ _ h => h) (Or.inl ⟨by rfl, ?_⟩) (by assumption) ?_
        rotate_left
        · intro w hSw; (try dsimp only at hSw); first | (go_simp; done) | (go_simp; with_reducible rfl)
        try simp only [Act.put, List.setIfInBounds_toArray, List.set_cons_zero, List.set_cons_succ]
        refine wpAnyH_ready (rs := [1]) (by kernel_rfl) (by simp) ?_
        refine AllReadyH.cons (o := ⟨_, _, _, _, _, _⟩) rfl (fun K hK => ?_) AllReadyH.nil
        go_simp
        refine any_step (fun w7 hN => ?_)
        have P7 : Hid (w7.heap[pb]? = wp.heap[pb]?) := Lib.hid (by rw [hN]; exact (Below.heap_alloc _ _ _ hpd).trans PD.out)
        have O7 : Hid (OwnS w7 w.heap.size (.slice la2 o2.length lc2) o2) := Lib.hid (by rw [hN]; exact World.ownsRow.alloc OD.out _)
        have W7 : Hid (Below w.heap.size w w7) := Lib.hid (by rw [hN]; exact WD.out.alloc WD.out.size _)
        have SRC7 : Hid (Src Tryd.prog 1 85 (.slice (some ⟨wd.heap.size, 0, none⟩) 1 1) 1 [.string ⟨#[124, 124, 124, 124, 124, 124, 124, 32, 98, 97, 115, 101, 10]⟩] w7) := Lib.hid (by rw [hN]; exact srcS_one wd _)
        have hp7 : pb < w7.heap.size := by rw [hN]; simp; omega
        clear hN PD OD WD hpd
        try go_wp2_with fail
        refine hK.out _ _ (by exact HF.out _ (Hid.out (by assumption))) (fun hHeld => ?_)
        clear hK K
        try simp only [Act.put, List.setIfInBounds_toArray, List.set_cons_zero, List.set_cons_succ]
        refine wpAnyH_ready (rs := [2]) (by kernel_rfl) (by simp) ?_
        refine AllReadyH.cons (o := ⟨_, _, _, _, _, _⟩) rfl (fun K hK => ?_) AllReadyH.nil
        refine step_own_src _ rfl _ _ 85 85 (by rfl) w.heap.size 9 i0 (.string ByteArray.empty) 1 16 Tryd.underlying85 hi hz0 hz1 hz2 rfl (by decide) _ _ _ (by rfl) O7.out _ _ _ (by rfl) SRC7.out (by unfold maxLen; omega) (by omega) W7.out.size ?_
        intro v8 w8 hown8 hg8
        have P8 : Hid (w8.heap[pb]? = wp.heap[pb]?) := Lib.hid ((hg8.gb.block pb hp7 (fun e => NB2.out e.symm)).trans P7.out)
        have O8 : Hid (OwnS w8 w.heap.size v8 (o2 ++ [[124, 124, 124, 124, 124, 124, 124, 32, 98, 97, 115, 101, 10]])) := Lib.hid (ownS_push (x := [124, 124, 124, 124, 124, 124, 124, 32, 98, 97, 115, 101, 10]) hown8)
        have W8 : Hid (Below w.heap.size w w8) := Lib.hid (W7.out.grown hg8.gb W7.out.size (fun q hq => (World.ownsRow.lt O7.out q hq).1))
        have NB8 : Hid (v8.ownBlock ≠ some pb) := Lib.hid (fun e => by rcases hg8.own _ e with e2 | e2; exact NB2.out e2; omega)
        have hp8 : pb < w8.heap.size := by have := hg8.size; omega
        clear hown8 hg8 P7 O7 W7 SRC7 hp7
        refine hK.out _ _ (by exact HF.out _ (Hid.out (by assumption))) (fun hHeld => ?_)
        clear hK K
        try simp only [Act.put, List.setIfInBounds_toArray, List.set_cons_zero, List.set_cons_succ]
        refine wpAnyH_ready (rs := [5]) (by kernel_rfl) (by simp) ?_
        refine AllReadyH.cons (o := ⟨_, _, _, _, _, _⟩) rfl (fun K hK => ?_) AllReadyH.nil
        go_simp
        refine (closed_any S w.heap.size v8 _ (o2 ++ [[124, 124, 124, 124, 124, 124, 124, 32, 98, 97, 115, 101, 10]]) ba w8 W8.out.size O8.out (HLba.out w8 W8.out) (by simp; omega) (by omega) HXba.out).mono ?_
        rintro e w3 ⟨v3, rfl, hO, hg⟩
        have P3 : Hid (w3.heap[pb]? = wp.heap[pb]?) := Lib.hid ((hg.gb.block pb hp8 (fun e => NB8.out e.symm)).trans P8.out)
        have W3 : Hid (Below w.heap.size w w3) := Lib.hid (W8.out.grown hg.gb W8.out.size (fun q hq => (World.ownsRow.lt O8.out q hq).1))
        have hp3 : pb < w3.heap.size := by have := hg.size; omega
        obtain ⟨o3, ho3⟩ : ∃ o, (o2 ++ [[124, 124, 124, 124, 124, 124, 124, 32, 98, 97, 115, 101, 10]]) ++ closedN ba = o := ⟨_, rfl⟩
        have hol3 : o3.length = o2.length + 1 + ba.length := by rw [← ho3]; simp [closedN_len]; omega
        rw [ho3] at hO
        have HO3 := Lib.hid ho3
        obtain ⟨la3, lc3, rfl⟩ := ownS_slice hO
        have O3 := Lib.hid hO
        have NB3 : Hid ((Value.slice la3 o3.length lc3).ownBlock ≠ some pb) := Lib.hid (fun e => by rcases hg.own _ e with e2 | e2; exact NB8.out e2; omega)
        have HOL3 := Lib.hid hol3
        have hob3 : o3.length + th.length + 2 ≤ 33554432 := by omega
        clear hO hg P8 O8 W8 hp8 NB8 ho3 hol3
        try go_wp2_with fail
        refine hK.out _ _ (by exact HF.out _ (Hid.out (by assumption))) (fun hHeld => ?_)
        clear hK K
        try simp only [Act.put, List.setIfInBounds_toArray, List.set_cons_zero, List.set_cons_succ]
        refine wpAnyH_take (i := 6) (oi := ⟨_, _, _, _, _, _⟩) (v := ?_) rfl (by kernel_rfl) (by kernel_rfl) (by kernel_rfl) (fun _ _ _ h => h) (Or.inl ⟨by rfl, ?_⟩) (by assumption) ?_
        rotate_left
        · intro w hSw; (try dsimp only at hSw); first | (go_simp; done) | (go_simp; with_reducible rfl)
        try simp only [Act.put, List.setIfInBounds_toArray, List.set_cons_zero, List.set_cons_succ]
        refine wpAnyH_done (by kernel_rfl) ?_ _
        clear hHeld HF
        have HF : Hid (∀ W : World, W.heap[pb]? = wp.heap[pb]? → W.cell? ⟨pb, 3, none⟩ = some (.slice ath th.length cth)) := Lib.hid (fun W hW => (HBX4.out W hW).2.2.2)
        go_upto_region 11 with fail
        refine wp_region_held_drew (S := (fun W => W.cell? ⟨pb, 3, none⟩ = some (.slice ath th.length cth))) (by kernel_rfl) (by exact HF.out _ P3.out) (fun hHeld => ?_)
        have PD : Hid (w3.drew.heap[pb]? = wp.heap[pb]?) := Lib.hid P3.out
        have OD : Hid (OwnS w3.drew w.heap.size (.slice la3 o3.length lc3) o3) := Lib.hid (own_below O3.out (fun _ _ _ => rfl))
        have WD : Hid (Below w.heap.size w w3.drew) := Lib.hid (W3.out.trans (drewn _ w3 1))
        have hpd : pb < w3.drew.heap.size := hp3
        clear P3 O3 W3 hp3
        generalize w3.drew = wd at *
        refine wpAnyH_take (i := 0) (oi := ⟨_, _, _, _, _, _⟩) (v := ?_) rfl (by kernel_rfl) (by kernel_rfl) (by kernel_rfl) (fun _ _ _ h => h) (Or.inl ⟨by rfl, ?_⟩) (by assumption) ?_
        rotate_left
        · intro w hSw; (try dsimp only at hSw); first | (go_simp; done) | (go_simp; with_reducible rfl)
        try simp only [Act.put, List.setIfInBounds_toArray, List.set_cons_zero, List.set_cons_succ]
        refine wpAnyH_take (i := 3) (oi := ⟨_, _, _, _, _, _⟩) (v := ?_) rfl (by kernel_rfl) (by kernel_rfl) (by kernel_rfl) (fun _ _ _ h => h) (Or.inl ⟨by rfl, ?_⟩) (by assumption) ?_
        rotate_left
        · intro w hSw; (try dsimp only at hSw); first | (go_simp; done) | (go_simp; with_reducible rfl)
        try simp only [Act.put, List.setIfInBounds_toArray, List.set_cons_zero, List.set_cons_succ]
        refine wpAnyH_take (i := 4) (oi := ⟨_, _, _, _, _, _⟩) (v := ?_) rfl (by kernel_rfl) (by kernel_rfl) (by kernel_rfl) (fun _ _ _ h => h) (Or.inl ⟨by rfl, ?_⟩) (by assumption) ?_
        rotate_left
        · intro w hSw; (try dsimp only at hSw); first | (go_simp; done) | (go_simp; with_reducible rfl)
        try simp only [Act.put, List.setIfInBounds_toArray, List.set_cons_zero, List.set_cons_succ]
        refine wpAnyH_ready (rs := [1]) (by kernel_rfl) (by simp) ?_
        refine AllReadyH.cons (o := ⟨_, _, _, _, _, _⟩) rfl (fun K hK => ?_) AllReadyH.nil
        go_simp
        refine any_step (fun w7 hN => ?_)
        have P7 : Hid (w7.heap[pb]? = wp.heap[pb]?) := Lib.hid (by rw [hN]; exact (Below.heap_alloc _ _ _ hpd).trans PD.out)
        have O7 : Hid (OwnS w7 w.heap.size (.slice la3 o3.length lc3) o3) := Lib.hid (by rw [hN]; exact World.ownsRow.alloc OD.out _)
        have W7 : Hid (Below w.heap.size w w7) := Lib.hid (by rw [hN]; exact WD.out.alloc WD.out.size _)
        have SRC7 : Hid (Src Tryd.prog 1 85 (.slice (some ⟨wd.heap.size, 0, none⟩) 1 1) 1 [.string ⟨#[61, 61, 61, 61, 61, 61, 61, 10]⟩] w7) := Lib.hid (by rw [hN]; exact srcS_one wd _)
        have hp7 : pb < w7.heap.size := by rw [hN]; simp; omega
        clear hN PD OD WD hpd
        try go_wp2_with fail
        refine hK.out _ _ (by exact HF.out _ (Hid.out (by assumption))) (fun hHeld => ?_)
        clear hK K
        try simp only [Act.put, List.setIfInBounds_toArray, List.set_cons_zero, List.set_cons_succ]
        refine wpAnyH_ready (rs := [2]) (by kernel_rfl) (by simp) ?_
        refine AllReadyH.cons (o := ⟨_, _, _, _, _, _⟩) rfl (fun K hK => ?_) AllReadyH.nil
        refine step_own_src _ rfl _ _ 85 85 (by rfl) w.heap.size 9 i0 (.string ByteArray.empty) 1 16 Tryd.underlying85 hi hz0 hz1 hz2 rfl (by decide) _ _ _ (by rfl) O7.out _ _ _ (by rfl) SRC7.out (by unfold maxLen; omega) (by omega) W7.out.size ?_
        intro v8 w8 hown8 hg8
        have P8 : Hid (w8.heap[pb]? = wp.heap[pb]?) := Lib.hid ((hg8.gb.block pb hp7 (fun e => NB3.out e.symm)).trans P7.out)
        have O8 : Hid (OwnS w8 w.heap.size v8 (o3 ++ [[61, 61, 61, 61, 61, 61, 61, 10]])) := Lib.hid (ownS_push (x := [61, 61, 61, 61, 61, 61, 61, 10]) hown8)
        have W8 : Hid (Below w.heap.size w w8) := Lib.hid (W7.out.grown hg8.gb W7.out.size (fun q hq => (World.ownsRow.lt O7.out q hq).1))
        have NB8 : Hid (v8.ownBlock ≠ some pb) := Lib.hid (fun e => by rcases hg8.own _ e with e2 | e2; exact NB3.out e2; omega)
        have hp8 : pb < w8.heap.size := by have := hg8.size; omega
        clear hown8 hg8 P7 O7 W7 SRC7 hp7
        refine hK.out _ _ (by exact HF.out _ (Hid.out (by assumption))) (fun hHeld => ?_)
        clear hK K
        try simp only [Act.put, List.setIfInBounds_toArray, List.set_cons_zero, List.set_cons_succ]
        refine wpAnyH_ready (rs := [5]) (by kernel_rfl) (by simp) ?_
        refine AllReadyH.cons (o := ⟨_, _, _, _, _, _⟩) rfl (fun K hK => ?_) AllReadyH.nil
        go_simp
        refine (closed_any S w.heap.size v8 _ (o3 ++ [[61, 61, 61, 61, 61, 61, 61, 10]]) th w8 W8.out.size O8.out (HLth.out w8 W8.out) (by simp; omega) (by omega) HXth.out).mono ?_
        rintro e w4 ⟨v4, rfl, hO, hg⟩
        have P4 : Hid (w4.heap[pb]? = wp.heap[pb]?) := Lib.hid ((hg.gb.block pb hp8 (fun e => NB8.out e.symm)).trans P8.out)
        have W4 : Hid (Below w.heap.size w w4) := Lib.hid (W8.out.grown hg.gb W8.out.size (fun q hq => (World.ownsRow.lt O8.out q hq).1))
        have hp4 : pb < w4.heap.size := by have := hg.size; omega
        obtain ⟨o4, ho4⟩ : ∃ o, (o3 ++ [[61, 61, 61, 61, 61, 61, 61, 10]]) ++ closedN th = o := ⟨_, rfl⟩
        have hol4 : o4.length = o3.length + 1 + th.length := by rw [← ho4]; simp [closedN_len]; omega
        rw [ho4] at hO
        have HO4 := Lib.hid ho4
        obtain ⟨la4, lc4, rfl⟩ := ownS_slice hO
        have O4 := Lib.hid hO
        have NB4 : Hid ((Value.slice la4 o4.length lc4).ownBlock ≠ some pb) := Lib.hid (fun e => by rcases hg.own _ e with e2 | e2; exact NB8.out e2; omega)
        have HOL4 := Lib.hid hol4
        have hob4 : o4.length + 1 ≤ 33554432 := by omega
        clear hO hg P8 O8 W8 hp8 NB8 ho4 hol4
        try go_wp2_with fail
        refine hK.out _ _ (by exact HF.out _ (Hid.out (by assumption))) (fun hHeld => ?_)
        clear hK K
        try simp only [Act.put, List.setIfInBounds_toArray, List.set_cons_zero, List.set_cons_succ]
        refine wpAnyH_take (i := 6) (oi := ⟨_, _, _, _, _, _⟩) (v := ?_) rfl (by kernel_rfl) (by kernel_rfl) (by kernel_rfl) (fun _ _ _ h => h) (Or.inl ⟨by rfl, ?_⟩) (by assumption) ?_
        rotate_left
        · intro w hSw; (try dsimp only at hSw); first | (go_simp; done) | (go_simp; with_reducible rfl)
        try simp only [Act.put, List.setIfInBounds_toArray, List.set_cons_zero, List.set_cons_succ]
        refine wpAnyH_done (by kernel_rfl) ?_ _
        clear hHeld HF
        have SRCF : Hid (Src Tryd.prog 1 85 (.slice (some ⟨w4.heap.size, 0, none⟩) 1 1) 1 [.string ⟨foot.toArray⟩] (w4.alloc (.cells #[.string ⟨foot.toArray⟩] 9))) := Lib.hid (srcS_one w4 _)
        have OF : Hid (OwnS (w4.alloc (.cells #[.string ⟨foot.toArray⟩] 9)) w.heap.size (.slice la4 o4.length lc4) o4) := Lib.hid (World.ownsRow.alloc O4.out _)
        have hsz4 := W4.out.size
        have HFF : Hid (o4 ++ [foot] = o0 ++ text1 head foot ⟨kd, ba, ou, th⟩) := Lib.hid (by rw [HT.out, ← HO4.out, ← HO3.out, ← HO2.out, HO1.out]; simp)
        go_wp2_with (at_builtin; refine wpList_own_src _ rfl _ _ 85 85 rfl w.heap.size 9 i0 (.string ByteArray.empty) 1 16 Tryd.underlying85 hi hz0 hz1 hz2 rfl (by decide) _ _ _ rfl OF.out _ 1 [.string ⟨foot.toArray⟩] rfl SRCF.out (by unfold maxLen; omega) (by omega) (by simp; omega) ?_)
        intro v5 w5 hown5 hg5
        have O5 : Hid (OwnS w5 w.heap.size v5 (o4 ++ [foot])) := Lib.hid (ownS_push hown5)
        have W5 : Hid (Below w.heap.size w w5) := Lib.hid ((W4.out.alloc hsz4 _).grown hg5.gb (by simp; omega) (fun q hq => (World.ownsRow.lt OF.out q hq).1))
        clear hown5 hg5
        go_wp2_with fail
        have HLL : Hid ((o4 ++ [foot]).length = o0.length + ba.length + ou.length + th.length + 4) := Lib.hid (by have := HOL2.out; have := HOL3.out; have := HOL4.out; have := congrArg List.length HO1.out; simp; omega)
        go_roundw
        case rel => exact ⟨k + 1, o4 ++ [foot], false, by omega, by go_num, rfl, by rw [HLL.out]; rw [HO1.out] at hall; omega, Lib.hid (by have := HN2.out; rw [HLL.out]; omega), Lib.hid (by rw [← HQ2.out, HC1.out]; simp), Lib.hid (by rw [← HE2.out, HFF.out, List.append_assoc]), O5, W5⟩
        case measure => simp [intOf]; omega
    · have hkl : ps.drop k = [] := List.drop_eq_nil_of_le (by omega)
      have HQF : Hid (q = cm) := Lib.hid (by rw [← hQ.out, hkl]; show q = (q && true); rw [Bool.and_true])
      have HEF : Hid (o0 = out) := Lib.hid (by rw [← hE.out, hkl]; show o0 = o0 ++ []; rw [List.append_nil])
      clear hkl hQ hE hN
      go_wp2_with fail
      go_ret2
      exact ⟨_, by rw [HQF.out]; rfl, by rw [← HEF.out]; exact hO.out, hW.out⟩
end Go.Proofs.YtjlpdoppnhcjoaaDoor
