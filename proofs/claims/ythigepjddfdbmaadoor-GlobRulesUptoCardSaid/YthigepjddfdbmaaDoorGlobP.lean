/- Skips. -/
import Derived.Test.YthigepjddfdbmaaDoorGlobO
namespace Go.Proofs.YthigepjddfdbmaaDoor
open Go.RowKit Go.Lib

/-- Which rules mean these names. -/
noncomputable def endsN (rs : List RuleN) (l : List Txt) (k : Nat) : Bool := @decide (Mt (itemsP (psK rs k)) l) (Classical.propDecidable _)
noncomputable def passN (rs : List RuleN) (l : List Txt) : Bool := passB rs (endsN rs l)
theorem passL_congr {rs : List RuleN} {g g' : Nat → Bool} : ∀ (l : List Nat), (∀ y ∈ l, g y = g' y) → passL rs g l = passL rs g' l
  | [], _ => rfl
  | y :: l, h => by rw [passL_cons, passL_cons, h y List.mem_cons_self, passL_congr l (fun z hz => h z (List.mem_cons_of_mem _ hz))]
theorem passB_stand {rs : List RuleN} {fs : Nat → Nat → Bool} {l : List Txt} (h : ∀ j, j < rs.length → StandF (psK rs j) l (fs j)) : passB rs (endsF rs fs) = passN rs l := by
  unfold passN passB
  rw [passL_congr _ (fun y hy => ?_)]
  have hy2 : y < rs.length := by simpa using hy
  have h1 := h y hy2 (psK rs y).length (Nat.le_refl _)
  rw [← itemsP_len (psK rs y), stand_end, itemsP_len] at h1
  unfold endsF endsN
  cases hf : fs y (psK rs y).length with
  | true => exact (@decide_eq_true _ (Classical.propDecidable _) (h1.1 hf)).symm
  | false => exact (@decide_eq_false _ (Classical.propDecidable _) (fun hm => by rw [h1.2 hm] at hf; cases hf)).symm
/-- Is what begins a path so far passed over? -/
def HitP (rs : List RuleN) (L : List Txt) (i : Nat) : Prop := i < L.length ∧ ¬ (i = 0 ∧ L.getD 0 [] = []) ∧ passN rs (L.take (i + 1)) = true
def AheadP (s : Txt) : Prop := s = [] ∨ s.getD 0 0 = 47
/-- Is a path, or a folder in which it lies, passed over? -/
def SkipsP (rs : List RuleN) (s : Txt) : Prop := (AheadP s ∧ passN rs [] = true) ∨ ∃ i, HitP rs (namesL s) i
/-- One row steps. -/
theorem PlAt.step {W W' : World} {B ab : Nat} {rs : List RuleN} {n : Nat} {cb : Nat → Nat} {fs : Nat → Nat → Bool} {j : Nat} {f : Nat → Bool} (h : PlAt W B ab rs n cb fs) (hj : j < n) (hg : W.grownBy W' (some (cb j))) (hb : Bits W' (cb j) ((psK rs j).length + 1) f) : PlAt W' B ab rs n cb (updF fs j f) := by
  have hne := (h.ne j hj).2
  have hab : W'.heap[ab]? = W.heap[ab]? := hg.block ab h.lt (fun e => by injection e with e; exact hne e.symm)
  refine ⟨Nat.lt_of_lt_of_le h.lt hg.size, h.lo, fun k hn => by obtain ⟨v, hv⟩ := h.ex k hn; exact ⟨v, (World.cell?_of_block (w := W) (a := ⟨ab, k, none⟩) hab).trans hv⟩, fun k => (World.frozen?_of_block (w := W) (a := ⟨ab, k, none⟩) hab).trans (h.fr k),
    fun k hn => (World.cell?_of_block (w := W) (a := ⟨ab, k, none⟩) hab).trans (h.cs k hn), fun k hn => ?_, h.ne, h.inj⟩
  by_cases e : k = j
  · subst e; rw [updF_here]; exact hb
  · rw [updF_else _ _ _ e]
    exact (h.bits k hn).kept (hg.block _ (h.bits k hn).lt (fun e2 => by injection e2 with e2; exact e (h.inj k j hn hj e2))) hg.size
/-- What Skips holds: the rows, the rules' blocks and the names'. -/
structure SkI (w w1 w2 : World) (ab : Nat) (rs : List RuleN) (cb : Nat → Nat) (fs : Nat → Nat → Bool) (W : World) : Prop where
  p : PlAt W w.heap.size ab rs rs.length cb fs
  b : Below w.heap.size w W
  n : ∀ q, w1.heap.size ≤ q → q < w2.heap.size → W.heap[q]? = w2.heap[q]?
  z : w2.heap.size ≤ W.heap.size
theorem SkI.below {w w1 w2 : World} {ab : Nat} {rs : List RuleN} {cb : Nat → Nat} {fs : Nat → Nat → Bool} {W W' : World} (h : SkI w w1 w2 ab rs cb fs W) (hb : Below W.heap.size W W') : SkI w w1 w2 ab rs cb fs W' :=
  ⟨h.p.kept (fun q hq _ => hb.block q hq) hb.size, h.b.trans (hb.mono h.b.size), fun q h1 h2 => (hb.block q (Nat.lt_of_lt_of_le h2 h.z)).trans (h.n q h1 h2), Nat.le_trans h.z hb.size⟩
theorem SkI.step {w w1 w2 : World} {ab : Nat} {rs : List RuleN} {cb : Nat → Nat} {fs : Nat → Nat → Bool} {W W' : World} {j : Nat} {f : Nat → Bool} (h : SkI w w1 w2 ab rs cb fs W) (hj : j < rs.length) (hc : cb j < w1.heap.size) (hg : W.grownBy W' (some (cb j))) (hb : Bits W' (cb j) ((psK rs j).length + 1) f) : SkI w w1 w2 ab rs cb (updF fs j f) W' :=
  ⟨h.p.step hj hg hb, h.b.grown hg h.b.size (fun r e => by injection e with e; have := (h.p.ne j hj).1; omega), fun q h1 h2 => (hg.block q (Nat.lt_of_lt_of_le h2 h.z) (fun e => by injection e with e; omega)).trans (h.n q h1 h2), Nat.le_trans h.z hg.size⟩
set_option maxRecDepth 100000 in
set_option maxHeartbeats 8000000 in
theorem skips_any (S : Nat → Prop) (rb : Nat) (rs : List RuleN) (s : Txt) (w : World) (hS : ∀ k, S k → k < w.heap.size) (h : RulesAt S w rb rs) (hE : PEnv w) (hs : s.length ≤ 4194300) :
    Calls Tryd.prog 16 #[.pointer (some ⟨rb, 0, none⟩), .string ⟨s.toArray⟩] w (TruthP (SkipsP rs s) w) := by
  have hl := h.2.2
  have H := Lib.hid (fun (W : World) (hb : Below w.heap.size w W) => h.kept (S' := S) (w' := W) (fun k hk => ⟨hk, hb.block k (hS k hk)⟩))
  have HS := Lib.hid hS
  have HST := Lib.hid (starts_any S rb rs w hS h)
  have HE := Lib.hid hE
  have HNS := Lib.hid (namesL_short s)
  have hnl := namesL_len s
  obtain ⟨hrb, ⟨rv, hrv, hrr⟩, _⟩ := h
  obtain ⟨ra, rc, rfl⟩ := RowsC.shape hrr
  have HRV := Lib.hid (fun (W : World) (hb : Below w.heap.size w W) => (World.cell?_of_block (w := w) (a := ⟨rb, 0, none⟩) (hb.block rb (hS rb hrb))).trans hrv)
  have HRR := Lib.hid (fun (W : World) (hb : Below w.heap.size w W) => RowsC.kept rule_keeps hrr (S' := S) (w' := W) (fun k hk => ⟨hk, hb.block k (hS k hk)⟩))
  clear hrv hrr hE hS
  go_enter Tryd.func16, Tryd.ntmps16
  go_wp2_with fail
  refine HST.out.mono ?_
  rintro e w1 ⟨ab, cb, fs, rfl, hp1, hf1, hl1⟩
  have HP1 := Lib.hid hp1
  have HF1 := Lib.hid hf1
  have HL1 := Lib.hid hl1
  have HCB : Hid (∀ j, j < rs.length → cb j < w1.heap.size) := Lib.hid (fun j hj => (hp1.bits j hj).lt)
  have hpass := passes_any S w.heap.size rb ab rs cb fs w1 (fun k hk => Nat.lt_of_lt_of_le (HS.out k hk) hl1.size) (H.out w1 hl1) hp1
  rw [passB_stand hf1] at hpass
  have HPS := Lib.hid hpass
  clear hp1 hf1 hl1 HST hpass
  by_cases h0 : s = []
  · subst h0
    go_wp2_with fail
    refine HPS.out.mono ?_
    rintro e wq ⟨rfl, hbq⟩
    have HQ : Hid (Below w.heap.size w wq) := Lib.hid (HL1.out.trans (hbq.mono HL1.out.size))
    cases hpn : passN rs [] with
    | true =>
      clear hbq
      go_wp2_with fail
      go_ret
      exact ⟨true, rfl, ⟨fun _ => Or.inl ⟨Or.inl rfl, hpn⟩, fun _ => rfl⟩, HQ.out⟩
    | false =>
      have HSP := Lib.hid (split_any [] wq (by simp) (HE.out.on HQ.out))
      have HPN := Lib.hid hpn
      clear hbq hpn
      go_wp2_with fail
      refine HSP.out.mono ?_
      rintro e w2 ⟨v, rfl, hv, hl2⟩
      have hn0 : namesL [] = [] := by unfold namesL; rw [if_pos rfl]
      rw [hn0] at hv
      obtain ⟨va, vc, rfl⟩ := hv.shape
      have H2 : Hid (Below w.heap.size w w2) := Lib.hid (HQ.out.trans (hl2.mono HQ.out.size))
      clear hv hl2 HSP
      go_wp2_with fail
      go_loopw [27] (fun i wr => i = .int .i64 0 ∧ Hid (Below w.heap.size w wr)) (fun _ _ => 0)
      case atStart => exact ⟨rfl, H2⟩
      case round =>
        obtain ⟨rfl, hB⟩ := hrel
        go_wp2_with fail
        go_ret
        refine ⟨false, rfl, ⟨fun h => (by cases h), fun h => ?_⟩, hB.out⟩
        rcases h with ⟨_, h⟩ | ⟨i, h, _⟩
        · rw [HPN.out] at h; cases h
        · rw [hn0] at h; simp at h
  have g0 : s.isEmpty = false := by cases s; exact absurd rfl h0; rfl
  have hI : ∀ W, (Instr.index 9 (.string ⟨s.toArray⟩) (.int .i64 0)).run Tryd.prog W = .ok (.int .u8 ((s.getD 0 0).toNat : Nat)) W := fun W => str_at W s 0 (by cases s; exact absurd rfl h0; simp)
  obtain ⟨ch, hch⟩ : ∃ ch, s.getD 0 0 = ch := ⟨_, rfl⟩
  rw [hch] at hI
  have HAH : Hid (AheadP s ↔ ch = 47) := Lib.hid ⟨fun h => h.elim (fun e => absurd e h0) (fun e => hch.symm.trans e), fun e => Or.inr (hch.trans e)⟩
  obtain ⟨pn, hpn⟩ : ∃ b, passN rs [] = b := ⟨_, rfl⟩
  rw [hpn] at HPS
  have HPN := Lib.hid hpn
  clear h0 hch hpn
  have key : (ch = 47 ∧ pn = true) ∨ (ch = 47 ∧ pn = false) ∨ ch ≠ 47 := by
    by_cases e : ch = 47
    · cases pn
      · exact Or.inr (Or.inl ⟨e, rfl⟩)
      · exact Or.inl ⟨e, rfl⟩
    · exact Or.inr (Or.inr e)
  rcases key with ⟨h47, hpn⟩ | ⟨h47, hpn⟩ | h47
  · have g4 : ((ch.toNat : Int) == 47) = true := byte_t _ 47 (by omega) 47 rfl h47
    subst hpn
    have HA2 : Hid (AheadP s ∧ passN rs [] = true) := Lib.hid ⟨HAH.out.2 h47, HPN.out⟩
    clear h47
    go_wp2_with fail
    refine HPS.out.mono ?_
    rintro e wq ⟨rfl, hbq⟩
    have HQ : Hid (Below w.heap.size w wq) := Lib.hid (HL1.out.trans (hbq.mono HL1.out.size))
    clear hbq
    go_wp2_with fail
    go_ret
    exact ⟨true, rfl, ⟨fun _ => Or.inl HA2.out, fun _ => rfl⟩, HQ.out⟩
  case' inr.inl =>
    have g4 : ((ch.toNat : Int) == 47) = true := byte_t _ 47 (by omega) 47 rfl h47
    subst hpn
    have HA : Hid (¬ (AheadP s ∧ passN rs [] = true)) := Lib.hid (fun h => by have := h.2; rw [HPN.out] at this; cases this)
    clear h47
    go_wp2_with fail
    refine HPS.out.mono ?_
    rintro e wq ⟨rfl, hbq⟩
    have HQ := Lib.hid hbq
    clear hbq g4 hI
    go_upto_region 4 with fail
  case' inr.inr =>
    have g4 : ((ch.toNat : Int) == 47) = false := byte_f _ 47 (by omega) 47 rfl h47
    have HA : Hid (¬ (AheadP s ∧ passN rs [] = true)) := Lib.hid (fun h => h47 (HAH.out.1 h.1))
    clear h47
    go_upto_region 4 with fail
    clear g4 hI
    generalize hwq : w1 = wq
    have HQ : Hid (Below w1.heap.size w1 wq) := Lib.hid (by rw [← hwq]; exact Below.refl _ _)
    clear hwq
  all_goals
    have HQW : Hid (Below w.heap.size w wq) := Lib.hid (HL1.out.trans (HQ.out.mono HL1.out.size))
    have HSP := Lib.hid (split_any s wq (by omega) (HE.out.on HQW.out))
    have HIQ : Hid (SkI w w1 wq ab rs cb fs wq) := Lib.hid ⟨HP1.out.kept (fun q hq _ => HQ.out.block q hq) HQ.out.size, HQW.out, fun _ _ _ => rfl, Nat.le_refl _⟩
    clear HPS
    go_wp2_with fail
    refine HSP.out.mono ?_
    rintro e w2 ⟨v, rfl, hv, hl2⟩
    generalize hN : namesL s = L at *
    obtain ⟨va, vc, rfl⟩ := hv.shape
    have HV := Lib.hid hv
    have HNL := Lib.hid hN
    have H2 : Hid (SkI w w1 w2 ab rs cb fs w2) := Lib.hid ⟨HP1.out.kept (fun q hq _ => (hl2.block q (Nat.lt_of_lt_of_le hq HQ.out.size)).trans (HQ.out.block q hq)) (Nat.le_trans HQ.out.size hl2.size), HQW.out.trans (hl2.mono HQW.out.size), fun _ _ _ => rfl, Nat.le_refl _⟩
    have HZ : Hid (w1.heap.size ≤ wq.heap.size) := Lib.hid HQ.out.size
    clear hv hl2 hN HSP HIQ HQW HP1 HL1
    go_wp2_with fail
    go_loopw [27] (fun i wr => ∃ (k : Nat) (fs : Nat → Nat → Bool), k ≤ L.length ∧ i = .int .i64 k ∧ Hid (SkI w w1 w2 ab rs cb fs wr) ∧ Hid (∀ j, j < rs.length → StandF (psK rs j) (L.take k) (fs j)) ∧ Hid (∀ i, i < k → ¬ HitP rs L i)) (fun i _ => L.length - (intOf i).toNat)
    case atStart => exact ⟨0, fs, Nat.zero_le _, rfl, H2, Lib.hid HF1.out, Lib.hid (fun i hi => by omega)⟩
    case round =>
      obtain ⟨k, fs1, hk, rfl, hI1, hS1, hN1⟩ := hrel
      by_cases hlt : k < L.length
      · obtain ⟨lb, rfl, hvS, _, hxs⟩ := StrsC.at HV.out (by omega)
        have cx := (World.cell?_of_block (w := w2) (w' := wr) (a := lb.add k) (by rw [add_block]; exact hI1.out.n _ (by have := HZ.out; have := hvS.1; omega) hvS.2)).trans (hxs k hlt)
        have HTK : Hid (L.take (k + 1) = L.take k ++ [L.getD k []]) := Lib.hid (take_one hlt)
        have HXL : Hid ((L.getD k []).length ≤ 4194304) := Lib.hid (by have := HNS.out _ (getD_in (d := []) hlt); omega)
        have HX0 : Hid (k = 0 → L.getD 0 [] = L.getD k []) := Lib.hid (fun e => by rw [e])
        have cr := HRV.out wr hI1.out.b
        clear hxs hvS
        generalize hx : L.getD k [] = x at *
        clear hx
        go_wp2_with fail
        clear cx cr
        go_loopw [37] (fun i wr2 => ∃ (m : Nat) (fs2 : Nat → Nat → Bool), m ≤ rs.length ∧ i = .int .i64 m ∧ Hid (SkI w w1 w2 ab rs cb fs2 wr2) ∧ Hid (∀ j, j < rs.length → StandF (psK rs j) (if j < m then L.take (k + 1) else L.take k) (fs2 j))) (fun i _ => rs.length - (intOf i).toNat)
        case atStart => exact ⟨0, fs1, Nat.zero_le _, rfl, hI1, Lib.hid (fun j hj => by rw [if_neg (by omega)]; exact hS1.out j hj)⟩
        case round =>
          obtain ⟨m, fs2, hm, rfl, hI2, hS2⟩ := hrel
          by_cases hmt : m < rs.length
          · obtain ⟨g, o, rfl, hSg, hc1, hc2, hat⟩ := RulesC.at (HRR.out wr hI2.out.b) (by omega)
            obtain ⟨pb, d0, d1, hpat⟩ := hat m hmt
            have HPAT : Hid (PatAt S wr pb (psK rs m)) := Lib.hid hpat
            clear hat hpat
            obtain ⟨lt, hlet⟩ : ∃ b, (rs.getD m ⟨[], false⟩).lets = b := ⟨_, rfl⟩
            rw [hlet] at d1
            clear hlet
            have HK := Lib.hid (new_five wr #[.pointer (some ⟨pb, 0, none⟩), .bool lt] 62)
            have HBL : Hid (Below wr.heap.size wr (wr.alloc (.cells #[.pointer (some ⟨pb, 0, none⟩), .bool lt] 62))) := Lib.hid ((Below.refl _ wr).alloc (Nat.le_refl _) _)
            go_upto_region 10 with fail
            clear d0 d1
            generalize hwa : wr.alloc (.cells #[.pointer (some ⟨pb, 0, none⟩), .bool lt] 62) = wa at *
            have c0 : wa.cell? ⟨wr.heap.size, 0, none⟩ = some (.pointer (some ⟨pb, 0, none⟩)) := by rw [cell_of_row _ _ _ _ _ _ HK.out]; rfl
            have HIA : Hid (SkI w w1 w2 ab rs cb fs2 wa) := Lib.hid (hI2.out.below HBL.out)
            have e0 := HIA.out.p.cs m hmt
            have HPA : Hid (PatAt S (wa.drewN 1) pb (psK rs m)) := Lib.hid (HPAT.out.kept (fun q hq => ⟨hq, HBL.out.block q (Nat.lt_of_lt_of_le (HS.out q hq) hI2.out.b.size)⟩))
            clear hwa HK HBL hI2 HPAT
            go_wp2_with fail
            go_still_tail 7, (by kernel_rfl)
            change wpList _ _ _ _ _ (wa.drewN 1)
            have HID : Hid (SkI w w1 w2 ab rs cb fs2 (wa.drewN 1)) := Lib.hid (HIA.out.below (drewn _ _ _))
            clear c0 e0 HIA
            generalize wa.drewN 1 = wd at *
            have HSTP := Lib.hid (step_any S pb (cb m) (psK rs m) (fs2 m) (L.take k) x wd (fun q hq => ⟨Nat.lt_of_lt_of_le (HS.out q hq) HID.out.b.size, fun e => by have := (HID.out.p.ne m hmt).1; have := HS.out q hq; omega⟩) HPA.out (HID.out.p.bits m hmt) (by have := hS2.out m hmt; rwa [if_neg (by omega)] at this) HXL.out)
            go_wp2_with fail
            refine HSTP.out.mono ?_
            rintro e w5 ⟨rfl, f5, hb5, hs5, hg5⟩
            have HI5 : Hid (SkI w w1 w2 ab rs cb (updF fs2 m f5) w5) := Lib.hid (HID.out.step hmt (HCB.out m hmt) hg5 hb5)
            have HS5 : Hid (∀ j, j < rs.length → StandF (psK rs j) (if j < m + 1 then L.take (k + 1) else L.take k) (updF fs2 m f5 j)) := Lib.hid (fun j hj => by
              by_cases e : j = m
              · subst e; rw [updF_here, if_pos (by omega), HTK.out]; exact hs5
              · rw [updF_else _ _ _ e]
                have := hS2.out j hj
                by_cases e2 : j < m
                · rw [if_pos e2] at this; rw [if_pos (by omega)]; exact this
                · rw [if_neg e2] at this; rw [if_neg (by omega)]; exact this)
            clear hb5 hs5 hg5 HSTP HID HPA hS2
            go_wp2_with fail
            go_roundw
            case rel => exact ⟨m + 1, _, by omega, by go_num, HI5, HS5⟩
            case measure => simp [intOf]; omega
          · have HS3 : Hid (∀ j, j < rs.length → StandF (psK rs j) (L.take (k + 1)) (fs2 j)) := Lib.hid (fun j hj => by have := hS2.out j hj; rwa [if_pos (by omega)] at this)
            have hpass := passes_any S w.heap.size rb ab rs cb fs2 wr (fun q hq => Nat.lt_of_lt_of_le (HS.out q hq) hI2.out.b.size) (H.out wr hI2.out.b) hI2.out.p
            rw [passB_stand HS3.out] at hpass
            have HPS2 := Lib.hid hpass
            clear hpass hS2
            have hnx : ∀ (W : World), (¬ HitP rs L k) → ∀ i, i < k + 1 → ¬ HitP rs L i := fun _ h i hi => by
              by_cases e : i = k
              · subst e; exact h
              · exact hN1.out i (by omega)
            have HNX := Lib.hid hnx
            clear hnx
            by_cases hk0 : k = 0
            · have ge : ((k : Int) == 0) = true := by rw [beq_iff_eq]; omega
              by_cases hx0 : x = []
              · have hno : ¬ HitP rs L k := fun h => h.2.1 ⟨hk0, by rw [HX0.out hk0, hx0]⟩
                have HNO := Lib.hid (HNX.out wr hno)
                clear hno HPS2
                subst hx0
                go_wp2_with fail
                go_roundw
                case rel => exact ⟨k + 1, fs2, by omega, by go_num, hI2, HS3, HNO⟩
                case measure => simp [intOf]; omega
              · have gx : x.isEmpty = false := by cases x; exact absurd rfl hx0; rfl
                have HOK : Hid (HitP rs L k ↔ passN rs (L.take (k + 1)) = true) := Lib.hid ⟨fun h => h.2.2, fun h => ⟨hlt, fun e => hx0 ((HX0.out hk0).symm.trans e.2), h⟩⟩
                clear hx0 hk0
                obtain ⟨pv, hpv⟩ : ∃ b, passN rs (L.take (k + 1)) = b := ⟨_, rfl⟩
                rw [hpv] at HPS2
                have HPV := Lib.hid hpv
                clear hpv
                go_wp2_with fail
                refine HPS2.out.mono ?_
                rintro e w5 ⟨rfl, hb5⟩
                have HI5 := Lib.hid (hI2.out.below hb5)
                clear hb5 hI2 HPS2
                cases pv
                · have HNO := Lib.hid (HNX.out wr (fun h => by have := HOK.out.1 h; rw [HPV.out] at this; cases this))
                  go_wp2_with fail
                  go_roundw
                  case rel => exact ⟨k + 1, fs2, by omega, by go_num, HI5, HS3, HNO⟩
                  case measure => simp [intOf]; omega
                · go_wp2_with fail
                  go_ret
                  exact ⟨true, rfl, ⟨fun _ => Or.inr ⟨k, by rw [HNL.out]; exact HOK.out.2 HPV.out⟩, fun _ => rfl⟩, HI5.out.b⟩
            · have ge : ((k : Int) == 0) = false := by rw [beq_eq_false_iff_ne]; omega
              have HOK : Hid (HitP rs L k ↔ passN rs (L.take (k + 1)) = true) := Lib.hid ⟨fun h => h.2.2, fun h => ⟨hlt, fun e => hk0 e.1, h⟩⟩
              clear hk0
              obtain ⟨pv, hpv⟩ : ∃ b, passN rs (L.take (k + 1)) = b := ⟨_, rfl⟩
              rw [hpv] at HPS2
              have HPV := Lib.hid hpv
              clear hpv
              go_wp2_with fail
              refine HPS2.out.mono ?_
              rintro e w5 ⟨rfl, hb5⟩
              have HI5 := Lib.hid (hI2.out.below hb5)
              clear hb5 hI2 HPS2
              cases pv
              · have HNO := Lib.hid (HNX.out wr (fun h => by have := HOK.out.1 h; rw [HPV.out] at this; cases this))
                go_wp2_with fail
                go_roundw
                case rel => exact ⟨k + 1, fs2, by omega, by go_num, HI5, HS3, HNO⟩
                case measure => simp [intOf]; omega
              · go_wp2_with fail
                go_ret
                exact ⟨true, rfl, ⟨fun _ => Or.inr ⟨k, by rw [HNL.out]; exact HOK.out.2 HPV.out⟩, fun _ => rfl⟩, HI5.out.b⟩
      · have HNO : Hid (¬ SkipsP rs s) := Lib.hid (fun h => by
          rcases h with h | ⟨i, h⟩
          · exact HA.out h
          · rw [HNL.out] at h
            exact hN1.out i (by have := h.1; omega) h)
        have hb := hI1.out.b
        go_wp2_with fail
        go_ret
        exact ⟨false, rfl, ⟨fun h => (by cases h), fun h => absurd h HNO.out⟩, hb⟩
end Go.Proofs.YthigepjddfdbmaaDoor
