/- The walk of Compact on members. -/
import Derived.Test.YtfphkbbgbfnhaaaDagM
namespace Go.Proofs.Ytfphkbbgbfnhaaa
open Go.RowKit Go.Shelf Go.Maps Go.Lib Go.Sort

set_option maxRecDepth 100000 in
theorem ptr_eq (B : Nat) (S : Nat → Prop) (w W : World) (bg bm : Nat) (va : Value) (D : DataW Unit) (mb : Nat → Nat) (g : Gr) (h : GrAt B S w bg bm va D mb g) (hW : ∀ k, S k → W.heap[k]? = w.heap[k]?) (i j : Nat) (hi : i < g.length) (hj : j < g.length) :
    (binOp .eql 59 (.pointer (some ⟨mb i, 0, none⟩)) (.pointer (some ⟨mb j, 0, none⟩))).run Try.prog W = .ok (.bool (decide (i = j))) W := by
  obtain ⟨ti, hti⟩ : ∃ t, Try.prog.info? 65 = some t := ⟨_, rfl⟩
  have hsz : ti.size ≠ 0 := by
    have : (Try.prog.info? 65).map (·.size) = some 3 := by kernel_rfl
    rw [hti] at this; simp at this; omega
  have up : Try.prog.underlying 59 = some (.pointer 65) := by kernel_rfl
  by_cases e : i = j
  · subst e
    rw [decide_eq_true rfl]
    exact run_eql_ptr_same W _ up hti
  · rw [decide_eq_false e]
    obtain ⟨_, b1, _⟩ := h.blk i hi
    obtain ⟨_, b2, _⟩ := h.blk j hj
    exact run_eql_ptr_other W up hti hsz (fun h2 => e (h.inj i j hi hj (by injection h2))) ((hW _ (h.smb i hi)).trans b1) ((hW _ (h.smb j hj)).trans b2)
set_option maxRecDepth 100000 in
theorem ptr_ne (B : Nat) (S : Nat → Prop) (w W : World) (bg bm : Nat) (va : Value) (D : DataW Unit) (mb : Nat → Nat) (g : Gr) (h : GrAt B S w bg bm va D mb g) (hW : ∀ k, S k → W.heap[k]? = w.heap[k]?) (i j : Nat) (hi : i < g.length) (hj : j < g.length) :
    (binOp .neq 59 (.pointer (some ⟨mb i, 0, none⟩)) (.pointer (some ⟨mb j, 0, none⟩))).run Try.prog W = .ok (.bool !(decide (i = j))) W := by
  obtain ⟨ti, hti⟩ : ∃ t, Try.prog.info? 65 = some t := ⟨_, rfl⟩
  have hsz : ti.size ≠ 0 := by
    have : (Try.prog.info? 65).map (·.size) = some 3 := by kernel_rfl
    rw [hti] at this; simp at this; omega
  have up : Try.prog.underlying 59 = some (.pointer 65) := by kernel_rfl
  by_cases e : i = j
  · subst e
    rw [decide_eq_true rfl]
    have h : ∀ d : Nat, (Op.equalIn (d + 1) 59 (.pointer (some ⟨mb i, 0, none⟩)) (.pointer (some ⟨mb i, 0, none⟩))).run Try.prog W = .ok true W := fun d => by
      simp [Op.equalIn, run_underlying up, sizeOf, typeInfo, hti, run_sameAddr_same]
    simp only [binOp]
    simp [Op.equal, Op.maxDepth, h 9999]
  · rw [decide_eq_false e]
    obtain ⟨_, b1, _⟩ := h.blk i hi
    obtain ⟨_, b2, _⟩ := h.blk j hj
    have hne : (⟨mb i, 0, none⟩ : Addr) ≠ ⟨mb j, 0, none⟩ := fun h2 => e (h.inj i j hi hj (by injection h2))
    have h : ∀ d : Nat, (Op.equalIn (d + 1) 59 (.pointer (some ⟨mb i, 0, none⟩)) (.pointer (some ⟨mb j, 0, none⟩))).run Try.prog W = .ok false W := fun d => by
      simp [Op.equalIn, run_underlying up, sizeOf, typeInfo, hti, hsz, run_sameAddr_other W hne ((hW _ (h.smb i hi)).trans b1) ((hW _ (h.smb j hj)).trans b2)]
    simp only [binOp]
    simp [Op.equal, Op.maxDepth, h 9999]
theorem size_ptrs (W : World) : (sizeOf (Try.prog.elem 61)).run Try.prog W = .ok 1 W := by kernel_rfl
theorem slice_lo (bk k len cap : Nat) (hk : k < len) (hc : len ≤ cap) (W : World) : (Instr.sliceAt 61 (.slice (some ⟨bk, 0, none⟩) len cap) (some (.int .i64 (k : Int))) none none).run Try.prog W = .ok (.slice (some ⟨bk, k, none⟩) (len - k) (cap - k)) W := by
  rw [run_sliceAt_slice W _ _ _ _ _ und_ptrs, run_slice_l W _ _ _ _ und_ptrs _ _ (by omega) (by omega), size_ptrs]
  have : ¬ cap = k := by omega
  simp [sliced, Result.andThen, this, add_pos]
theorem slice_hi (bk k len cap : Nat) (hk : k ≤ len) (hc : len ≤ cap) (W : World) : (Instr.sliceAt 61 (.slice (some ⟨bk, 0, none⟩) len cap) none (some (.int .i64 (k : Int))) none).run Try.prog W = .ok (.slice (some ⟨bk, 0, none⟩) k cap) W := by
  rw [run_sliceAt_slice W _ _ _ _ _ und_ptrs, run_slice_h W _ _ _ _ und_ptrs _ _ (by omega) (by omega), size_ptrs]
  simp [sliced, Result.andThen, add_none]
/-- A row whose first cells are these members, and the others as in the list. -/
structure RowN (w wr : World) (bk kk : Nat) (mb : Nat → Nat) (p l : List Nat) : Prop where
  len : p.length = kk
  lo : ∀ j, j < kk → wr.cell? ⟨bk, j, none⟩ = some (.pointer (some ⟨mb (p.getD j 0), 0, none⟩))
  hi : ∀ j, kk ≤ j → j < l.length → wr.cell? ⟨bk, j, none⟩ = some (.pointer (some ⟨mb (l.getD j 0), 0, none⟩))
  fr : ∀ j, wr.frozen? ⟨bk, j, none⟩ = false
  gr : w.grownBy wr (some bk)
theorem RowN.drewN {w wr : World} {bk kk : Nat} {mb : Nat → Nat} {p l : List Nat} (h : RowN w wr bk kk mb p l) (q : Nat) : RowN w (wr.drewN q) bk kk mb p l :=
  ⟨h.len, h.lo, h.hi, h.fr, kb_trans h.gr (kb_any (drewn _ _ q) _)⟩
theorem RowN.put {w wr : World} {bk kk : Nat} {mb : Nat → Nat} {p l : List Nat} (h : RowN w wr bk kk mb p l) (hk : kk < l.length) (x : Nat) : RowN w (wr.setCell ⟨bk, kk, none⟩ (.pointer (some ⟨mb x, 0, none⟩))) bk (kk + 1) mb (p ++ [x]) l := by
  have hl := h.len
  refine ⟨by simp [hl], fun j hj => ?_, fun j h1 h2 => ?_, fun j => by rw [World.frozen?_setCell]; exact h.fr j, kb_trans h.gr (kb_set wr bk kk _)⟩
  · by_cases e : j = kk
    · subst e
      rw [World.cell?_setCell_same _ _ _ (h.hi j (Nat.le_refl _) hk)]
      simp [List.getD, ← hl]
    · rw [World.cell?_setCell_other _ _ _ _ (by intro c; injection c with _ c _; exact e c.symm), h.lo j (by omega)]
      simp [List.getD, List.getElem?_append_left (show j < p.length by omega)]
  · rw [World.cell?_setCell_other _ _ _ _ (by intro c; injection c with _ c _; omega)]
    exact h.hi j (by omega) h2
theorem grown_setCells (w : World) (b o : Nat) (vs : List Value) : w.grownBy (w.setCells b o vs) (some b) := by
  induction vs generalizing w o with
  | nil => exact kb_refl _ _
  | cons v vs ih => exact kb_trans (kb_set w b o v) (ih _ _)
set_option maxRecDepth 100000 in
set_option maxHeartbeats 8000000 in
theorem compact_any (B : Nat) (S : Nat → Prop) (bg bm : Nat) (va : Value) (D : DataW Unit) (mb : Nat → Nat) (g : Gr) (l : List Nat) (bk cap : Nat) (w : World) (h : GrAt B S w bg bm va D mb g) (hl : ∀ i ∈ l, i < g.length) (hll : l.length ≤ 4194304) (hc : ∀ j, j < l.length → w.cell? ⟨bk, j, none⟩ = some (.pointer (some ⟨mb (l.getD j 0), 0, none⟩))) (hf : ∀ j, w.frozen? ⟨bk, j, none⟩ = false)
    (hcap : l.length ≤ cap) (hcm : cap ≤ 9223372036854775807) (hbS : ¬ S bk) :
    Calls Try.prog 50 #[.slice (some ⟨bk, 0, none⟩) l.length cap] w fun e w' => e = .returned (.slice (some ⟨bk, 0, none⟩) (compN l).length cap) ∧ (∀ j, j < (compN l).length → w'.cell? ⟨bk, j, none⟩ = some (.pointer (some ⟨mb ((compN l).getD j 0), 0, none⟩))) ∧ w.grownBy w' (some bk) := by
  have HQ := Lib.hid (fun (W : World) (hW : w.grownBy W (some bk)) i j hi hj => ptr_eq B S w W bg bm va D mb g h (fun k hk => hW.block k (h.dom k hk).2 (fun e => hbS (by injection e with e; rw [← e]; exact hk))) i j hi hj)
  have ptr_neq := fun i j hi hj (W : World) (hW : w.grownBy W (some bk)) => ptr_ne B S w W bg bm va D mb g h (fun k hk => hW.block k (h.dom k hk).2 (fun e => hbS (by injection e with e; rw [← e]; exact hk))) i j hi hj
  have HNQ := Lib.hid ptr_neq
  clear ptr_neq
  have HL : Hid (∀ j, j < l.length → l.getD j 0 < g.length) := Lib.hid (fun j hj => hl _ (by rw [getD_at hj]; exact List.getElem_mem hj))
  have HR0 : Hid (RowN w w bk 0 mb [] l) := Lib.hid ⟨rfl, fun j hj => absurd hj (by omega), fun j _ h2 => hc j h2, hf, kb_refl _ _⟩
  have HC := Lib.hid hc
  have HF := Lib.hid hf
  have HCL := Lib.hid (compN_len l)
  clear h hl hc hf hbS
  by_cases h2 : l.length < 2
  · have he : compN l = l := by
      have := compN_same l l.length (Nat.le_refl _) (fun j h3 h4 => by omega)
      rwa [List.take_of_length_le (Nat.le_refl _)] at this
    have HE := Lib.hid he
    clear he
    go_enter Try.func50, Try.ntmps50
    go_wp2_with fail
    go_ret
    exact ⟨by rw [HE.out]; rfl, by rw [HE.out]; exact HC.out, kb_refl _ _⟩
  · go_enter Try.func50, Try.ntmps50
    go_wp2_with fail
    go_loopw [3] (fun i wr => ∃ k q : Nat, 1 ≤ k ∧ k ≤ l.length ∧ i = .int .i64 k ∧ wr = w.drewN q ∧ Hid (∀ j, 1 ≤ j → j < k → l.getD j 0 ≠ l.getD (j - 1) 0)) (fun i _ => l.length - (intOf i).toNat)
    case atStart => exact ⟨1, 0, by omega, by omega, rfl, rfl, Lib.hid (fun j h3 h4 => by omega)⟩
    case round =>
      obtain ⟨k, q, hk1, hk2, rfl, rfl, hne⟩ := hrel
      by_cases hlt : k < l.length
      · obtain ⟨m, hm⟩ : ∃ m : Nat, (k : Int) - 1 = m := ⟨k - 1, by omega⟩
        have hmk : m + 1 = k := by omega
        have c1 := HC.out k hlt
        have c2 := HC.out m (by omega)
        have HE : Hid (∀ q2, (binOp .eql 59 (.pointer (some ⟨mb (l.getD k 0), 0, none⟩)) (.pointer (some ⟨mb (l.getD m 0), 0, none⟩))).run Try.prog (w.drewN q2) = .ok (.bool (decide (l.getD k 0 = l.getD m 0))) (w.drewN q2)) := Lib.hid (fun q2 => HQ.out _ (kb_any (drewn _ _ q2) _) _ _ (HL.out k hlt) (HL.out m (by omega)))
        have HMK := Lib.hid hmk
        clear hmk
        by_cases heq : l.getD k 0 = l.getD m 0
        · have e2 := decide_eq_true heq
          rw [e2] at HE
          have hee := HE.out
          have hsl := slice_lo bk k l.length cap hlt hcap
          obtain ⟨m2, hm2⟩ : ∃ m2, l.length - k = m2 := ⟨_, rfl⟩
          rw [hm2] at hsl
          have hm3 : k + m2 = l.length := by omega
          have HM3 := Lib.hid hm3
          clear hm2
          have hcs : Hid (compN (l.take (k + 1)) = l.take k) := Lib.hid (by
            have := HMK.out
            rw [compN_step l k (by omega) hlt, if_pos (by rw [heq]; congr 1; omega)]
            exact compN_same l k (by omega) hne.out)
          have HRN : Hid (∀ q, RowN w (w.drewN q) bk k mb (compN (l.take (k + 1))) l) := Lib.hid (fun q => by
            rw [hcs.out]
            refine ⟨by simp; omega, fun j hj => ?_, fun j _ h4 => HC.out j h4, HF.out, kb_any (drewn _ _ q) _⟩
            have h5 := HC.out j (by omega)
            rw [show (l.take k).getD j 0 = l.getD j 0 by simp [List.getD, hj]]
            exact h5)
          have hlen1 : 1 ≤ m2 := by omega
          have hmL : m2 ≤ 4194304 := by omega
          generalize cap - k = cap2 at *
          generalize mb (l.getD k 0) = p1 at *
          generalize mb (l.getD m 0) = p2 at *
          clear heq e2 hm3 hcs hne HE
          go_wp2_with fail
          go_quiet (fail)
          go_wp2_with fail
          go_loopw [3, 5] (fun c i wr => ∃ kk k2 : Nat, c = .int .i64 kk ∧ i = .int .i64 k2 ∧ 1 ≤ k2 ∧ k2 ≤ m2 ∧ kk + 1 ≤ k + k2 ∧ Hid (RowN w wr bk kk mb (compN (l.take (k + k2))) l)) (fun _ i _ => m2 - (intOf i).toNat)
          case atStart => exact ⟨k, 1, rfl, rfl, Nat.le_refl _, hlen1, Nat.le_refl _, Lib.hid (HRN.out _)⟩
          case round =>
            obtain ⟨kk, k2, rfl, rfl, h3, h4, h5, hrn⟩ := hrel
            by_cases hlt2 : k2 < m2
            · obtain ⟨m4, hm4⟩ : ∃ m4 : Nat, (k2 : Int) - 1 = m4 := ⟨k2 - 1, by omega⟩
              have hmk4 : m4 + 1 = k2 := by omega
              have hA : k + k2 < l.length := by have := HM3.out; omega
              have d1 := hrn.out.hi (k + k2) (by omega) hA
              have d2 := hrn.out.hi (k + m4) (by omega) (by omega)
              have hkl : kk < l.length := by omega
              have d3 := hrn.out.hi kk (Nat.le_refl _) hkl
              have d4 := hrn.out.fr kk
              have HE : Hid (∀ q2, (binOp .neq 59 (.pointer (some ⟨mb (l.getD (k + k2) 0), 0, none⟩)) (.pointer (some ⟨mb (l.getD (k + m4) 0), 0, none⟩))).run Try.prog (wr.drewN q2) = .ok (.bool !(decide (l.getD (k + k2) 0 = l.getD (k + m4) 0))) (wr.drewN q2)) := Lib.hid (fun q2 => HNQ.out _ _ (HL.out _ hA) (HL.out _ (by omega)) _ (kb_trans hrn.out.gr (kb_any (drewn _ _ q2) _)))
              have HST := Lib.hid (compN_step l (k + k2) (by omega) hA)
              have HM4 := Lib.hid hmk4
              clear hmk4
              by_cases heq : l.getD (k + k2) 0 = l.getD (k + m4) 0
              · have e2 := decide_eq_true heq
                rw [e2] at HE
                have hee := HE.out
                have HR2 : Hid (∀ q, RowN w (wr.drewN q) bk kk mb (compN (l.take (k + (k2 + 1)))) l) := Lib.hid (fun q => by
                  rw [← Nat.add_assoc, HST.out, if_pos (by rw [heq]; congr 1; have := HM4.out; omega)]
                  exact hrn.out.drewN q)
                clear heq e2 d3 d4
                generalize mb (l.getD (k + k2) 0) = p1 at *
                generalize mb (l.getD (k + m4) 0) = p2 at *
                go_wp2_with fail
                go_quiet (fail)
                go_wp2_with fail
                go_roundw
                case rel => exact ⟨kk, k2 + 1, rfl, by go_num, by omega, by omega, by omega, Lib.hid (HR2.out _)⟩
                case measure => simp [intOf]; omega
              · have e2 := decide_eq_false heq
                rw [e2] at HE
                have hee := HE.out
                have HR2 : Hid (∀ q, RowN w ((wr.drewN q).setCell ⟨bk, kk, none⟩ (.pointer (some ⟨mb (l.getD (k + k2) 0), 0, none⟩))) bk (kk + 1) mb (compN (l.take (k + (k2 + 1)))) l) := Lib.hid (fun q => by
                  rw [← Nat.add_assoc, HST.out, if_neg (fun h => heq (by rw [h]; congr 1; have := HM4.out; omega))]
                  exact (hrn.out.drewN q).put hkl _)
                clear heq e2
                generalize mb (l.getD (k + k2) 0) = p1 at *
                generalize mb (l.getD (k + m4) 0) = p2 at *
                generalize mb (l.getD kk 0) = p3 at *
                go_wp2_with fail
                go_quiet (fail)
                go_wp2_with fail
                go_roundw
                case rel => exact ⟨kk + 1, k2 + 1, by go_num, by go_num, by omega, by omega, by omega, Lib.hid (HR2.out _)⟩
                case measure => simp [intOf]; omega
            · have hkm : k + k2 = l.length := by have := HM3.out; omega
              have hkl : kk < l.length := by omega
              have HR2 : Hid (RowN w wr bk kk mb (compN l) l) := Lib.hid (by have := hrn.out; rwa [hkm, List.take_of_length_le (Nat.le_refl _)] at this)
              have hs1 := slice_lo bk kk l.length cap hkl hcap
              have hs2 := slice_hi bk kk l.length cap (by omega) hcap
              have hcl := fun ty => Lib.run_clear_slice wr 61 59 ty (.pointer none) Try.underlying61 zeroPtr rfl rfl bk kk (l.length - kk) (cap - kk) (by omega) (fun j hj => by
                rw [HR2.out.hi (kk + j) (by omega) (by omega)]; rfl) (fun j _ => HR2.out.fr _)
              have HFN : Hid ((∀ j, j < kk → (wr.setCells bk kk (List.replicate (l.length - kk) (.pointer none))).cell? ⟨bk, j, none⟩ = some (.pointer (some ⟨mb ((compN l).getD j 0), 0, none⟩))) ∧ w.grownBy (wr.setCells bk kk (List.replicate (l.length - kk) (.pointer none))) (some bk)) := Lib.hid ⟨fun j hj => by
                rw [World.cell?_setCells_out bk _ kk wr ⟨bk, j, none⟩ (fun _ _ => Or.inl hj)]
                exact HR2.out.lo j hj, kb_trans HR2.out.gr (grown_setCells _ _ _ _)⟩
              have HLN : Hid ((compN l).length = kk) := Lib.hid HR2.out.len
              clear hkm hrn HR2
              generalize wr.setCells bk kk (List.replicate (l.length - kk) (.pointer none)) = wz at *
              generalize l.length - kk = nz at *
              generalize cap - kk = cz at *
              go_wp2_with fail
              go_ret
              exact ⟨by rw [HLN.out]; rfl, fun j hj => HFN.out.1 j (by rw [← HLN.out]; exact hj), HFN.out.2⟩
        · have e2 := decide_eq_false heq
          rw [e2] at HE
          have HNE : Hid (∀ j, 1 ≤ j → j < k + 1 → l.getD j 0 ≠ l.getD (j - 1) 0) := Lib.hid (fun j h3 h4 => by
            by_cases e : j = k
            · subst e
              have := HMK.out
              rw [show j - 1 = m by omega]; exact heq
            · exact hne.out j h3 (by omega))
          have hee := HE.out
          clear heq e2
          generalize mb (l.getD k 0) = p1 at *
          generalize mb (l.getD m 0) = p2 at *
          go_wp2_with fail
          go_quiet (fail)
          go_wp2_with fail
          go_roundw
          case rel => exact ⟨k + 1, _, by omega, by omega, by go_num, rfl, HNE⟩
          case measure => simp [intOf]; omega
      · have hkl : k = l.length := by omega
        have HE : Hid (compN l = l) := Lib.hid (by
          have := compN_same l l.length (Nat.le_refl _) (fun j h3 h4 => hne.out j h3 (by omega))
          rwa [List.take_of_length_le (Nat.le_refl _)] at this)
        clear hkl
        go_wp2_with fail
        go_ret
        exact ⟨by rw [HE.out]; rfl, by rw [HE.out]; exact HC.out, kb_any (drewn _ _ _) _⟩
end Go.Proofs.Ytfphkbbgbfnhaaa
