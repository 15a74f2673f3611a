/- Entries in rows; the walk of object's checkEntries. -/
import Derived.Test.YtdolonkeanlaoaaDoorObL
namespace Go.Proofs.YtdolonkeanlaoaaDoor
open Go.RowKit Go.Lib
attribute [local simp high] id_size id_zero ent_size ent_zero n32_ne n35_ne

def entRel (_ : Nat → Prop) (_ : World) (e : EntN) (cs : List Value) : Prop := cs = rowL n35 (entF e)
theorem ent_keeps : Keeps entRel := fun _ _ _ _ _ _ h _ => h
abbrev EntsC := RowsC entRel n35
/-- One entry in memory. -/
theorem EntsC.at {S : Nat → Prop} {w : World} {a : Option Addr} {c : Nat} {l : List EntN} (h : EntsC S w (.slice a l.length c) l) (hn : 0 < l.length) :
    ∃ g o, a = some ⟨g, o, none⟩ ∧ S g ∧ l.length ≤ c ∧ c ≤ 9223372036854775807 ∧ ∀ i, i < l.length → ∀ k, k < 35 → w.cell? ⟨g, o + i * n35 + k, none⟩ = some (entF (l.getD i noEnt) k) := by
  obtain ⟨g, o, h1, h2, h3, h4, h5⟩ := RowsC.at h hn
  refine ⟨g, o, h1, h2, h3, h4, fun i hi k hk => ?_⟩
  have he : l[i]? = some (l.getD i noEnt) := by simp [List.getD, hi]
  obtain ⟨cs, _, h7, h8⟩ := h5 i _ he
  obtain rfl : cs = _ := h7
  rw [Nat.add_assoc]
  exact h8 k _ (rowL_at _ (by unfold n35; exact hk))
theorem less_asym : ∀ {a b : List UInt8}, Op.bytesLess a b = true → Op.bytesLess b a = false ∧ (b == a) = false
  | [], [], h => by cases h
  | [], _ :: _, _ => ⟨rfl, rfl⟩
  | _ :: _, [], h => by cases h
  | x :: a, y :: b, h => by
    by_cases e : x = y
    · subst e
      rw [less_cons_same] at h ⊢
      obtain ⟨h1, h2⟩ := less_asym h
      refine ⟨h1, ?_⟩
      rw [beq_eq_false_iff_ne] at h2 ⊢
      intro c; injection c with _ c; exact h2 c
    · rw [less_cons_ne e] at h
      rw [less_cons_ne (fun c => e c.symm)]
      refine ⟨decide_eq_false (fun c => ?_), ?_⟩
      · have h1 := of_decide_eq_true h
        rw [UInt8.lt_iff_toNat_lt] at h1 c; omega
      · rw [beq_eq_false_iff_ne]; intro c; injection c with c _; exact e c.symm
theorem less_conn : ∀ {a b : List UInt8}, Op.bytesLess a b = false → b ≠ a → Op.bytesLess b a = true
  | [], [], _, h => absurd rfl h
  | [], _ :: _, h, _ => by cases h
  | _ :: _, [], _, _ => rfl
  | x :: a, y :: b, h, hn => by
    by_cases e : x = y
    · subst e
      rw [less_cons_same] at h ⊢
      exact less_conn h (fun c => hn (by rw [c]))
    · rw [less_cons_ne e] at h
      rw [less_cons_ne (fun c => e c.symm)]
      have h1 := of_decide_eq_false h
      refine decide_eq_true ?_
      rw [UInt8.lt_iff_toNat_lt] at h1 ⊢
      have : x.toNat ≠ y.toNat := fun c => e (UInt8.toNat_inj.1 c)
      omega
theorem getD_mem {α : Type} {l : List α} {d : α} {i : Nat} (h : i < l.length) : l.getD i d ∈ l := by simp [List.getD, h]
set_option maxRecDepth 100000 in
set_option maxHeartbeats 4000000 in
theorem checkE_any (S : Nat → Prop) (v : Value) (l : List EntN) (w : World) (hS : ∀ k, S k → k < w.heap.size) (hv : EntsC S w v l) (hT : ∀ e ∈ l, e.name.length ≤ 4194304) (hl : l.length ≤ 1048576) :
    Calls Tryd.prog 37 #[v] w fun e w' => e = .returned (.int .i64 (orderE l)) ∧ Below w.heap.size w w' := by
  obtain ⟨la, lc, rfl⟩ := RowsC.shape hv
  unfold orderE
  obtain ⟨R, hR⟩ : ∃ R, firstE (entFault l) l.length 0 = R := ⟨_, rfl⟩
  have HR : Hid (firstE (entFault l) (l.length - 0) 0 = R) := Lib.hid hR
  rw [hR]
  have HV := Lib.hid (fun (W : World) (hb : Below w.heap.size w W) => RowsC.kept ent_keeps hv (S' := S) (w' := W) (fun k hk => ⟨hk, hb.block k (hS k hk)⟩))
  have HSS := Lib.hid hS
  have HT := Lib.hid hT
  clear hv hR hT hS
  go_enter Tryd.func37, Tryd.ntmps37
  go_wp2_with fail
  go_loopw [7] (fun i wr => ∃ k : Nat, k ≤ l.length ∧ i = .int .i64 (k : Int) ∧ Hid (firstE (entFault l) (l.length - k) k = R) ∧ Hid (Below w.heap.size w wr)) (fun i _ => l.length - (intOf i).toNat)
  case atStart => exact ⟨0, Nat.zero_le _, rfl, HR, Lib.hid (Below.refl _ _)⟩
  case round =>
    obtain ⟨k, hk, rfl, hE2, hB⟩ := hrel
    by_cases hlt : k < l.length
    · obtain ⟨g, o, rfl, hSg, _, hc2, hat⟩ := EntsC.at (HV.out wr hB.out) (by omega)
      have hg : g < wr.heap.size := Nat.lt_of_lt_of_le (HSS.out g hSg) hB.out.size
      have HFK : Hid (nameAt l k = (l.getD k noEnt).name) := Lib.hid rfl
      have HFM : Hid ((l.getD k noEnt).name.length ≤ 4194304) := Lib.hid (HT.out _ (getD_mem hlt))
      have HFP : Hid (∀ p, p < k → ∀ W, Below wr.heap.size wr W → W.cell? ⟨g, o + p * n35, none⟩ = some (.string ⟨(nameAt l p).toArray⟩)) := Lib.hid (fun p hp W hW => by
        have h := hat p (by omega) 0 (by omega)
        rw [Nat.add_zero] at h
        exact (World.cell?_of_block (w := wr) (hW.block g hg)).trans h)
      have hck := fun j (hj : j < n35) => hat k hlt j (by unfold n35 at hj; exact hj)
      clear hat
      generalize l.getD k noEnt = f at *
      have c1 := load_row wr g (o + k * n35) n35 (entF f) hck
      have i1 := RF.new wr 45 n35 (entF noEnt)
      have c2 := i1.write (ent_one f n35)
      have HI := Lib.hid (i1.put (entF f))
      have HW := Lib.hid (below_setRow ((Below.refl wr.heap.size wr).alloc (Nat.le_refl _) (.cells (rowL n35 (entF noEnt)).toArray 45)) (Nat.le_refl _) (rowL n35 (entF f)).toArray)
      have hol := rowL_len n35 (entF f)
      have hol2 := rowL_len n35 (entF noEnt)
      clear hck i1
      go_upto_region 4 with fail
      clear c1 c2 hol hol2
      generalize (wr.alloc (.cells (rowL n35 (entF noEnt)).toArray 45)).setRow wr.heap.size (rowL n35 (entF f)).toArray = w5 at *
      obtain ⟨fb, hfb⟩ : ∃ fb, wr.heap.size = fb := ⟨_, rfl⟩
      rw [hfb] at HI ⊢
      have c0 : w5.cell? ⟨fb, 0, none⟩ = some (.string ⟨f.name.toArray⟩) := HI.out.cell (k := 0) (by unfold n35; omega)
      have HB5 : Hid (Below w.heap.size w w5) := Lib.hid (hB.out.trans (HW.out.mono hB.out.size))
      have hfl := HI.out.lt
      have HFL := Lib.hid hfl
      have HCK := Lib.hid (name_any f.name w5 (by have := HFM.out; omega))
      obtain ⟨ck, hck⟩ : ∃ c, nameB f.name = c := ⟨_, rfl⟩
      rw [hck] at HCK
      have HCE : Hid (nameB (nameAt l k) = ck) := Lib.hid (by rw [HFK.out]; exact hck)
      clear hck hfb hfl
      go_wp2_with fail
      refine HCK.out.mono ?_
      rintro e w6 ⟨rfl, hb6⟩
      have HB6 : Hid (Below w.heap.size w w6) := Lib.hid (HB5.out.trans (hb6.mono HB5.out.size))
      have HW6 : Hid (Below wr.heap.size wr w6) := Lib.hid (HW.out.trans (hb6.mono HW.out.size))
      have c6 : w6.cell? ⟨fb, 0, none⟩ = some (.string ⟨f.name.toArray⟩) := (World.cell?_of_block (w := w5) (hb6.block fb HFL.out)).trans c0
      clear hb6 c0 HCK
      have HRS : Hid (R = if entFault l k ≠ 0 then entFault l k else firstE (entFault l) (l.length - (k + 1)) (k + 1)) := Lib.hid (by
        rw [← hE2.out, show l.length - k = (l.length - (k + 1)) + 1 by omega]; rfl)
      have HFA : Hid (entFault l k = if ck = false then 50 else if k = 0 then 0 else if ltB (nameAt l (k - 1)) f.name = true then 0 else 92) := Lib.hid (by unfold entFault; rw [HCE.out, HFK.out])
      clear hE2
      cases ck
      · have HRE : Hid (R = 50) := Lib.hid (by
          have h0 : entFault l k = 50 := by rw [HFA.out, if_pos rfl]
          rw [HRS.out, h0, if_pos (by simp)])
        go_wp2_with fail
        go_ret
        exact ⟨by rw [HRE.out]; rfl, HB6.out⟩
      · obtain ⟨nx, hnx⟩ : ∃ p, k - 1 = p := ⟨_, rfl⟩
        by_cases hk0 : k = 0
        · have HRE : Hid (firstE (entFault l) (l.length - (k + 1)) (k + 1) = R) := Lib.hid (by
            have h0 : entFault l k = 0 := by rw [HFA.out, if_neg (by simp), if_pos hk0]
            rw [HRS.out, h0, if_neg (by simp)])
          have g0 : decide ((k : Int) > 0) = false := decide_eq_false (by omega)
          have g1 : decide ((0 : Int) < (k : Int)) = false := decide_eq_false (by omega)
          have g2 : decide (0 < k) = false := decide_eq_false (by omega)
          clear hnx hk0
          go_upto_region 6 with fail
          go_quiet (fail)
          go_wp2_with fail
          go_roundw
          case rel => exact ⟨k + 1, by omega, by go_num, HRE, Lib.hid (HB6.out.trans ((drewn _ _ _).mono HB6.out.size))⟩
          case measure => simp [intOf]; omega
        · have hkp : k = nx + 1 := by omega
          have hpi : (k : Int) - 1 = (nx : Int) := by omega
          have hpw : IntKind.i64.wrap ((k : Int) - 1) = (nx : Int) := by rw [hpi]; exact IntWalk.i64_in _ (by omega)
          have hp0 : (0 : Int) ≤ (nx : Int) := by omega
          have hpn : ((nx : Nat) : Int).toNat = nx := by omega
          have hpm : (nx : Int) < (l.length : Int) := by omega
          have c7 := HFP.out nx (by omega) w6 HW6.out
          have g0 : decide ((k : Int) > 0) = true := decide_eq_true (by omega)
          have g1 : decide ((0 : Int) < (k : Int)) = true := decide_eq_true (by omega)
          have g2 : decide (0 < k) = true := decide_eq_true (by omega)
          rw [hnx] at HFA
          have HK0 := Lib.hid hk0
          generalize nameAt l nx = q at *
          clear hnx hk0 hkp
          cases hlq : ltB q f.name
          · have HRE : Hid (R = 92) := Lib.hid (by
              have h0 : entFault l k = 92 := by rw [HFA.out, if_neg (by simp), if_neg HK0.out, hlq, if_neg (by simp)]
              rw [HRS.out, h0, if_pos (by simp)])
            by_cases he : f.name = q
            · have hb1 : Op.bytesLess f.name q = false := by rw [he]; exact less_self q
              have hb2 : (f.name == q) = true := by rw [he]; simp
              clear hlq he
              go_upto_region 6 with fail
              go_quiet (fail)
              go_wp2_with fail
              go_ret
              exact ⟨by rw [HRE.out]; rfl, HB6.out.trans ((drewn _ _ _).mono HB6.out.size)⟩
            · have hb1 : Op.bytesLess f.name q = true := less_conn hlq he
              have hb2 : (f.name == q) = false := by rw [beq_eq_false_iff_ne]; exact he
              clear hlq he
              go_upto_region 6 with fail
              go_quiet (fail)
              go_wp2_with fail
              go_ret
              exact ⟨by rw [HRE.out]; rfl, HB6.out.trans ((drewn _ _ _).mono HB6.out.size)⟩
          · have HRE : Hid (firstE (entFault l) (l.length - (k + 1)) (k + 1) = R) := Lib.hid (by
              have h0 : entFault l k = 0 := by rw [HFA.out, if_neg (by simp), if_neg HK0.out, hlq, if_pos rfl]
              rw [HRS.out, h0, if_neg (by simp)])
            obtain ⟨hb1, hb2⟩ := less_asym (show Op.bytesLess q f.name = true from hlq)
            clear hlq
            go_upto_region 6 with fail
            go_quiet (fail)
            go_wp2_with fail
            go_roundw
            case rel => exact ⟨k + 1, by omega, by go_num, HRE, Lib.hid (HB6.out.trans ((drewn _ _ _).mono HB6.out.size))⟩
            case measure => simp [intOf]; omega
    · have HRE : Hid (R = 0) := Lib.hid (by have := hB; rw [← hE2.out, show l.length - k = 0 by omega]; rfl)
      go_wp2_with fail
      go_ret
      exact ⟨by rw [HRE.out]; rfl, hB.out⟩
end Go.Proofs.YtdolonkeanlaoaaDoor
