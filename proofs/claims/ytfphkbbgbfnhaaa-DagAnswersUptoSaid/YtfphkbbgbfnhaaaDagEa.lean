/- The reference's reached. -/
import Derived.Test.YtfphkbbgbfnhaaaDagDb
namespace Go.Proofs.Ytfphkbbgbfnhaaa
open Go.RowKit Go.Shelf Go.Maps Go.Lib Go.Sort

theorem refOf_getD {g : Gr} {k : Nat} (h : k < g.length) : (refOf g).getD k ([], []) = (nmOf g k, (psOf g k).map (nmOf g)) := by
  have h' : k < (refOf g).length := by rw [refOf_len]; exact h
  rw [getD_at h', nm_at h, ps_at h]
  simp [refOf]
theorem node_at {S : Nat → Prop} {w : World} {a : Option Addr} {c : Nat} {g : Gr} (h : NodesC S w (.slice a g.length c) (refOf g)) (hn : 0 < g.length) :
    ∃ gg go, a = some ⟨gg, go, none⟩ ∧ S gg ∧ g.length ≤ c ∧ c ≤ 9223372036854775807 ∧ ∀ k, k < g.length → ∃ pa pc, w.cell? ⟨gg, go + k * 2, none⟩ = some (.string ⟨(nmOf g k).toArray⟩) ∧ w.cell? ⟨gg, go + k * 2 + 1, none⟩ = some (.slice pa (psOf g k).length pc) ∧ StrsC S w (.slice pa (psOf g k).length pc) ((psOf g k).map (nmOf g)) := by
  rw [← refOf_len g] at h hn
  obtain ⟨gg, go, h1, h2, h3, h4, h5⟩ := NodesC.at h hn
  rw [refOf_len] at h3
  refine ⟨gg, go, h1, h2, h3, h4, fun k hk => ?_⟩
  obtain ⟨v, c1, c2, c3⟩ := h5 k (by rw [refOf_len]; exact hk)
  rw [refOf_getD hk] at c1 c3
  obtain ⟨pa, pc, rfl⟩ := c3.shape
  rw [List.length_map] at c2 c3
  exact ⟨pa, pc, c1, c2, c3⟩
theorem par_at {S : Nat → Prop} {W : World} {pa : Option Addr} {pc : Nat} {g : Gr} {l : List Nat} {q : Nat} (h : StrsC S W (.slice pa l.length pc) (l.map (nmOf g))) (hq : q < l.length) :
    ∃ pg po, pa = some ⟨pg, po, none⟩ ∧ S pg ∧ l.length ≤ pc ∧ pc ≤ 9223372036854775807 ∧ W.cell? ⟨pg, po + q, none⟩ = some (.string ⟨(nmOf g (l.getD q 0)).toArray⟩) := by
  have e : (l.map (nmOf g)).length = l.length := by simp
  rw [← e] at h
  obtain ⟨pg, po, h1, h2, h3, h4, h5⟩ := h.at (by rw [e]; omega)
  have h6 := h5 q (by rw [e]; exact hq)
  rw [e] at h3
  refine ⟨pg, po, h1, h2, h3, h4, ?_⟩
  have e2 : (l.map (nmOf g)).getD q [] = nmOf g (l.getD q 0) := by simp [List.getD, hq]
  rwa [e2] at h6
theorem find_nm {g : Gr} (hg : Good g) {j : Nat} (hj : j < g.length) : findN (refOf g) (nmOf g j) = (j : Int) := by
  have h := in_names.2 (show idxN g (nmOf g j) < g.length by rw [idx_nm hg hj]; exact hj)
  unfold findN
  rw [refOf_names, if_pos h]
  show ((idxN g (nmOf g j) : Nat) : Int) = _
  rw [idx_nm hg hj]
open Classical in
/-- What is marked when all from k on have been looked at. -/
noncomputable def stN (g : Gr) (b : Nat → Bool) (k p : Nat) : Bool := decide ((k ≤ p ∧ From g b p) ∨ (p < k ∧ ∃ j, k ≤ j ∧ From g b j ∧ p ∈ psOf g j))
theorem st_start (g : Gr) (b : Nat → Bool) (p : Nat) (hp : p < g.length) : stN g b g.length p = false := by
  unfold stN
  rw [decide_eq_false_iff_not]
  rintro (⟨h, _⟩ | ⟨_, j, h1, _, h3⟩)
  · omega
  · rw [ps_none h1] at h3; cases h3
open Classical in
theorem st_end (g : Gr) (b : Nat → Bool) (p : Nat) : stN g b 0 p = reachB g b p := by
  unfold stN reachB
  rw [Bool.eq_iff_iff, decide_eq_true_eq, decide_eq_true_eq]
  constructor
  · rintro (⟨_, h⟩ | ⟨h, _⟩)
    · exact h
    · omega
  · intro h; exact Or.inl ⟨Nat.zero_le _, h⟩
open Classical in
theorem st_here {g : Gr} (hg : Good g) (b : Nat → Bool) {i : Nat} : (stN g b (i + 1) i || b i) = reachB g b i := by
  unfold stN reachB
  rw [Bool.eq_iff_iff, Bool.or_eq_true, decide_eq_true_eq, decide_eq_true_eq, from_iff]
  constructor
  · rintro ((⟨h, _⟩ | ⟨_, j, _, h2, h3⟩) | h)
    · omega
    · exact Or.inr ⟨j, h2, h3⟩
    · exact Or.inl h
  · rintro (h | ⟨j, h1, h2⟩)
    · exact Or.inr h
    · have := (down_lt hg h2).1
      exact Or.inl (Or.inr ⟨by omega, j, by omega, h1, h2⟩)
open Classical in
theorem st_step {g : Gr} (hg : Good g) (b : Nat → Bool) {i : Nat} (p : Nat) : stN g b i p = ((if p = i then reachB g b i else stN g b (i + 1) p) || (reachB g b i && decide (p ∈ psOf g i))) := by
  unfold stN reachB
  by_cases e : p = i
  · subst e
    rw [if_pos rfl]
    rw [Bool.eq_iff_iff, Bool.or_eq_true, Bool.and_eq_true, decide_eq_true_eq, decide_eq_true_eq, decide_eq_true_eq]
    constructor
    · rintro (⟨_, h⟩ | ⟨h, _⟩)
      · exact Or.inl h
      · omega
    · rintro (h | ⟨h, _⟩) <;> exact Or.inl ⟨Nat.le_refl _, h⟩
  · rw [if_neg e, Bool.eq_iff_iff, Bool.or_eq_true, Bool.and_eq_true, decide_eq_true_eq, decide_eq_true_eq, decide_eq_true_eq, decide_eq_true_eq]
    constructor
    · rintro (⟨h1, h2⟩ | ⟨h1, j, h2, h3, h4⟩)
      · exact Or.inl (Or.inl ⟨by omega, h2⟩)
      · rcases Nat.eq_or_lt_of_le h2 with h5 | h5
        · subst h5; exact Or.inr ⟨h3, h4⟩
        · exact Or.inl (Or.inr ⟨by omega, j, by omega, h3, h4⟩)
    · rintro ((⟨h1, h2⟩ | ⟨h1, j, h2, h3, h4⟩) | ⟨h1, h2⟩)
      · exact Or.inl ⟨by omega, h2⟩
      · exact Or.inr ⟨by omega, j, by omega, h3, h4⟩
      · have := (down_lt hg h2).1
        exact Or.inr ⟨this, i, Nat.le_refl _, h1, h2⟩
theorem Bits.put {w : World} {cb n : Nat} {f f' : Nat → Bool} (h : Bits w cb n f) {k : Nat} (hk : k < n) {r : Bool} (hf : ∀ p, p < n → f' p = (if p = k then r else f p)) : Bits (w.setCell ⟨cb, k, none⟩ (.bool r)) cb n f' := by
  refine ⟨by simpa using h.lt, fun p hp => ?_, fun p => by rw [World.frozen?_setCell]; exact h.fr p⟩
  rw [hf p hp]
  by_cases e : p = k
  · subst e; rw [if_pos rfl]; exact World.cell?_setCell_same _ _ _ (h.cs _ hp)
  · rw [if_neg e, World.cell?_setCell_other _ _ _ _ (by intro c; injection c with _ c _; exact e c.symm)]; exact h.cs p hp
/-- What the outer loop holds. -/
def RR (w : World) (cb : Nat) (g : Gr) (b : Nat → Bool) (k : Nat) (W : World) : Prop := Bits W cb g.length (stN g b k) ∧ Below w.heap.size w W
/-- What the inner loop holds. -/
def RI (w : World) (cb : Nat) (g : Gr) (b : Nat → Bool) (m q : Nat) (W : World) : Prop := Bits W cb g.length (fun p => (if p = m then true else stN g b (m + 1) p) || decide (p ∈ (psOf g m).take q)) ∧ Below w.heap.size w W
set_option maxRecDepth 100000 in
set_option maxHeartbeats 8000000 in
theorem rreached_any (S S2 : Nat → Prop) (v v2 : Value) (g : Gr) (l : List Txt) (w : World) (hS : ∀ k, S k → k < w.heap.size) (h : NodesC S w v (refOf g)) (hg : Good g) (hgl : g.length ≤ 65536) (hpl : ∀ i, (psOf g i).length ≤ 4194304) (hS2 : ∀ k, S2 k → k < w.heap.size) (hv : StrsC S2 w v2 l) (hl : l.length ≤ 4194304) :
    Calls Try.prog 28 #[v, v2] w fun e w' => ∃ cb, e = .returned (.slice (some ⟨cb, 0, none⟩) g.length g.length) ∧ Bits w' cb g.length (reachB g (begF g l)) ∧ w.heap.size ≤ cb ∧ Below w.heap.size w w' := by
  obtain ⟨i0, hi, hz0, hz1, hz2⟩ := info_parts Try.info4b
  obtain ⟨a, c, rfl⟩ := RowsC.shape h
  rw [refOf_len] at h ⊢
  have H := Lib.hid (fun (W : World) (hb : Below w.heap.size w W) => RowsC.kept node_keeps h (S' := S) (w' := W) (fun k hk => ⟨hk, hb.block k (hS k hk)⟩))
  have HV := Lib.hid (fun (W : World) (hb : Below w.heap.size w W) => hv.kept (S' := S2) (w' := W) (fun k hk => ⟨hk, hb.block k (hS2 k hk)⟩))
  have HG := Lib.hid hg
  have HS := Lib.hid hS
  have HPL := Lib.hid hpl
  obtain ⟨la, lc, rfl⟩ := hv.shape
  clear h hv hg hS2 hpl hS
  go_enter Try.func28, Try.ntmps28
  go_upto_region 2 with (at_make; refine wpList_make_full _ rfl _ _ 66 rfl w.heap.size 4 i0 (.bool false) 1 Try.underlying66 hi hz0 hz1 .i64 .i64 _ _ g.length rfl rfl (by omega) (by omega) (by rw [hz2]; omega) (by unfold maxLen; omega) (by omega) ?_; intro w1 hown hgrow)
  have hlt1 : w.heap.size < w1.heap.size := (hown.lt _ rfl).2
  have hR : Hid (RR w w.heap.size g (begF g l) g.length w1) := Lib.hid ⟨(Bits.made hown hlt1).congr (fun p hp => st_start g _ p hp), (Below.refl _ w).grown hgrow (by omega) (fun j hj => by cases hj)⟩
  clear hown hgrow
  obtain ⟨cb, hcb⟩ : ∃ cb, w.heap.size = cb := ⟨_, rfl⟩
  have HCB := Lib.hid hcb
  rw [hcb] at hR
  rw [hcb]
  clear hcb hlt1
  obtain ⟨q0, hq0⟩ : ∃ q : Int, (g.length : Int) - 1 = q := ⟨_, rfl⟩
  have hq1 : -1 ≤ q0 ∧ q0 ≤ 65536 := by omega
  obtain ⟨hq1, hq2⟩ := hq1
  have HQ0 := Lib.hid hq0
  go_wp2_with fail
  clear hq0
  go_loopw [6] (fun i wr => ∃ (k : Nat) (q : Int), k ≤ g.length ∧ i = .int .i64 q ∧ q = (k : Int) - 1 ∧ Hid (RR w cb g (begF g l) k wr)) (fun i _ => (intOf i + 1).toNat)
  case atStart => exact ⟨g.length, q0, Nat.le_refl _, rfl, HQ0.out.symm, hR⟩
  case round =>
    obtain ⟨k, q, hk, rfl, hqk, hS⟩ := hrel
    by_cases hk0 : k = 0
    · have hq : q = -1 := by omega
      subst hq
      have HK0 := Lib.hid hk0
      clear hqk hk0
      go_wp2_with fail
      go_ret
      refine ⟨cb, rfl, ?_, Nat.le_of_eq HCB.out, hS.out.2⟩
      have := hS.out.1
      rw [HK0.out] at this
      exact this.congr (fun p hp => (st_end g _ p).symm)
    · obtain ⟨m, hm⟩ : ∃ m, k = m + 1 := ⟨k - 1, by omega⟩
      subst hm
      have hq : q = (m : Int) := by omega
      subst hq
      clear hqk hk0
      have hmn : m < g.length := by omega
      obtain ⟨gg, go, rfl, hgS, hc1, hc2, hat⟩ := node_at (H.out wr hS.out.2) (by omega)
      obtain ⟨pa, pc, n1, n2, n3⟩ := hat m hmn
      have hcs := hS.out.1.cs m hmn
      have hfr := hS.out.1.fr m
      have HST := Lib.hid (st_here HG.out (begF g l) (i := m))
      have HBG : Hid (begF g l m = decide (nmOf g m ∈ l)) := Lib.hid (by unfold begF; simp [hmn])
      obtain ⟨q1, hq1⟩ : ∃ q : Int, (m : Int) - 1 = q := ⟨_, rfl⟩
      have HQ1 := Lib.hid hq1
      have hq3 : -1 ≤ q1 := by omega
      have hq4 : q1 ≤ 65536 := by omega
      have HN2 : Hid (w.cell? ⟨gg, go + m * 2 + 1, none⟩ = some (.slice pa (psOf g m).length pc)) := Lib.hid ((World.cell?_of_block (w := w) (a := ⟨gg, go + m * 2 + 1, none⟩) (hS.out.2.block gg (HS.out gg hgS))).symm.trans n2)
      have HN3 : Hid (∀ W, Below w.heap.size w W → StrsC S W (.slice pa (psOf g m).length pc) ((psOf g m).map (nmOf g))) := Lib.hid (fun W hW => n3.kept (fun k hk => ⟨hk, (hW.block k (HS.out k hk)).trans (hS.out.2.block k (HS.out k hk)).symm⟩))
      have hpm := HPL.out m
      clear hat n3
      obtain ⟨s, hs⟩ : ∃ s, stN g (begF g l) (m + 1) m = s := ⟨_, rfl⟩
      have HSS := Lib.hid hs
      rw [hs] at hcs
      clear hs
      cases s
      · obtain ⟨r, hr⟩ : ∃ r, decide (nmOf g m ∈ l) = r := ⟨_, rfl⟩
        have HIN := in_any S2 (.slice la l.length lc) l (nmOf g m) wr (HV.out wr hS.out.2) hl
        rw [hr] at HIN
        have HI := Lib.hid HIN
        have HR : Hid (reachB g (begF g l) m = r) := Lib.hid (by rw [← HST.out, HSS.out, HBG.out, hr]; rfl)
        clear hr HIN
        go_wp2_with fail
        refine HI.out.mono ?_
        rintro e w5 ⟨rfl, rfl⟩
        have hB2 : Hid (Bits (wr.setCell ⟨cb, m, none⟩ (.bool r)) cb g.length (fun p => if p = m then r else stN g (begF g l) (m + 1) p)) := Lib.hid (hS.out.1.put hmn (fun _ _ => rfl))
        have hBl : Hid (Below w.heap.size w (wr.setCell ⟨cb, m, none⟩ (.bool r))) := Lib.hid (hS.out.2.setCell (Nat.le_of_eq HCB.out) _)
        have hcs2 := hB2.out.cs m hmn
        rw [if_pos rfl] at hcs2
        cases r
        · go_wp2_with fail
          go_roundw
          case rel => exact ⟨m, q1, by omega, rfl, HQ1.out.symm, Lib.hid ⟨hB2.out.congr (fun p _ => by rw [st_step HG.out, HR.out]; simp), hBl.out⟩⟩
          case measure => simp [intOf]; have := HQ1.out; omega
        · go_wp2_with fail
          go_loopw [7] (fun q wr' => ∃ q2 : Nat, q2 ≤ (psOf g m).length ∧ q = .int .i64 q2 ∧ Hid (RI w cb g (begF g l) m q2 wr')) (fun q _ => (psOf g m).length - (intOf q).toNat)
          case atStart => exact ⟨0, Nat.zero_le _, rfl, Lib.hid ⟨hB2.out.congr (fun p _ => by simp), hBl.out⟩⟩
          case round =>
            obtain ⟨q2, hq2', rfl, hS3⟩ := hrel
            have n2' := (World.cell?_of_block (w := w) (a := ⟨gg, go + m * 2 + 1, none⟩) (hS3.out.2.block gg (HS.out gg hgS))).trans HN2.out
            by_cases hlt : q2 < (psOf g m).length
            · obtain ⟨pg, po, rfl, hpS, _, _, p1⟩ := par_at (HN3.out wr hS3.out.2) hlt
              have hjm : (psOf g m).getD q2 0 ∈ psOf g m := by rw [getD_at hlt]; exact List.getElem_mem hlt
              have hjlt := down_lt HG.out hjm
              have hjn : (psOf g m).getD q2 0 < g.length := by omega
              have HF := Lib.hid (find_nm HG.out hjn)
              have HTK : Hid (∀ p, decide (p ∈ (psOf g m).take (q2 + 1)) = (decide (p ∈ (psOf g m).take q2) || decide (p = (psOf g m).getD q2 0))) := Lib.hid (fun p => by
                rw [take_snoc (d := 0) hlt, Bool.eq_iff_iff]; simp)
              have hcs3 := hS3.out.1.cs _ hjn
              have hfr3 := hS3.out.1.fr ((psOf g m).getD q2 0)
              have HND := Lib.hid (find_any S (.slice (some ⟨gg, go, none⟩) g.length c) (refOf g) (nmOf g ((psOf g m).getD q2 0)) wr (H.out wr hS3.out.2) (by rw [refOf_len]; omega))
              rw [HF.out] at HND
              clear hjm hjlt HF
              generalize nmOf g ((psOf g m).getD q2 0) = nj at *
              generalize (psOf g m).getD q2 0 = j at *
              go_wp2_with fail
              refine HND.out.mono ?_
              rintro e w6 ⟨rfl, rfl⟩
              have hjl2 : j ≤ 65536 := by omega
              go_wp2_with fail
              go_roundw
              case rel => exact ⟨q2 + 1, by omega, by go_num, Lib.hid ⟨hS3.out.1.put hjn (fun p _ => by
                rw [HTK.out]
                by_cases e : p = j
                · subst e; rw [if_pos rfl]; simp
                · rw [if_neg e]; simp [e]), hS3.out.2.setCell (Nat.le_of_eq HCB.out) _⟩⟩
              case measure => simp [intOf]; omega
            · have HTA : Hid ((psOf g m).take q2 = psOf g m) := Lib.hid (List.take_of_length_le (by omega))
              go_wp2_with fail
              go_roundw
              case rel => exact ⟨m, q1, by omega, rfl, HQ1.out.symm, Lib.hid ⟨hS3.out.1.congr (fun p _ => by rw [st_step HG.out, HR.out, HTA.out]; simp), hS3.out.2⟩⟩
              case measure => simp [intOf]; have := HQ1.out; omega
      · have HR : Hid (reachB g (begF g l) m = true) := Lib.hid (by rw [← HST.out, HSS.out]; rfl)
        have hB2 : Hid (Bits (wr.setCell ⟨cb, m, none⟩ (.bool true)) cb g.length (fun p => if p = m then true else stN g (begF g l) (m + 1) p)) := Lib.hid (hS.out.1.put hmn (fun _ _ => rfl))
        have hBl : Hid (Below w.heap.size w (wr.setCell ⟨cb, m, none⟩ (.bool true))) := Lib.hid (hS.out.2.setCell (Nat.le_of_eq HCB.out) _)
        have hcs2 := hB2.out.cs m hmn
        rw [if_pos rfl] at hcs2
        go_wp2_with fail
        go_loopw [7] (fun q wr' => ∃ q2 : Nat, q2 ≤ (psOf g m).length ∧ q = .int .i64 q2 ∧ Hid (RI w cb g (begF g l) m q2 wr')) (fun q _ => (psOf g m).length - (intOf q).toNat)
        case atStart => exact ⟨0, Nat.zero_le _, rfl, Lib.hid ⟨hB2.out.congr (fun p _ => by simp), hBl.out⟩⟩
        case round =>
          obtain ⟨q2, hq2', rfl, hS3⟩ := hrel
          have n2' := (World.cell?_of_block (w := w) (a := ⟨gg, go + m * 2 + 1, none⟩) (hS3.out.2.block gg (HS.out gg hgS))).trans HN2.out
          by_cases hlt : q2 < (psOf g m).length
          · obtain ⟨pg, po, rfl, hpS, _, _, p1⟩ := par_at (HN3.out wr hS3.out.2) hlt
            have hjm : (psOf g m).getD q2 0 ∈ psOf g m := by rw [getD_at hlt]; exact List.getElem_mem hlt
            have hjlt := down_lt HG.out hjm
            have hjn : (psOf g m).getD q2 0 < g.length := by omega
            have HF := Lib.hid (find_nm HG.out hjn)
            have HTK : Hid (∀ p, decide (p ∈ (psOf g m).take (q2 + 1)) = (decide (p ∈ (psOf g m).take q2) || decide (p = (psOf g m).getD q2 0))) := Lib.hid (fun p => by
              rw [take_snoc (d := 0) hlt, Bool.eq_iff_iff]; simp)
            have hcs3 := hS3.out.1.cs _ hjn
            have hfr3 := hS3.out.1.fr ((psOf g m).getD q2 0)
            have HND := Lib.hid (find_any S (.slice (some ⟨gg, go, none⟩) g.length c) (refOf g) (nmOf g ((psOf g m).getD q2 0)) wr (H.out wr hS3.out.2) (by rw [refOf_len]; omega))
            rw [HF.out] at HND
            clear hjm hjlt HF
            generalize nmOf g ((psOf g m).getD q2 0) = nj at *
            generalize (psOf g m).getD q2 0 = j at *
            go_wp2_with fail
            refine HND.out.mono ?_
            rintro e w6 ⟨rfl, rfl⟩
            have hjl2 : j ≤ 65536 := by omega
            go_wp2_with fail
            go_roundw
            case rel => exact ⟨q2 + 1, by omega, by go_num, Lib.hid ⟨hS3.out.1.put hjn (fun p _ => by
              rw [HTK.out]
              by_cases e : p = j
              · subst e; rw [if_pos rfl]; simp
              · rw [if_neg e]; simp [e]), hS3.out.2.setCell (Nat.le_of_eq HCB.out) _⟩⟩
            case measure => simp [intOf]; omega
          · have HTA : Hid ((psOf g m).take q2 = psOf g m) := Lib.hid (List.take_of_length_le (by omega))
            go_wp2_with fail
            go_roundw
            case rel => exact ⟨m, q1, by omega, rfl, HQ1.out.symm, Lib.hid ⟨hS3.out.1.congr (fun p _ => by rw [st_step HG.out, HR.out, HTA.out]; simp), hS3.out.2⟩⟩
            case measure => simp [intOf]; have := HQ1.out; omega
end Go.Proofs.Ytfphkbbgbfnhaaa
