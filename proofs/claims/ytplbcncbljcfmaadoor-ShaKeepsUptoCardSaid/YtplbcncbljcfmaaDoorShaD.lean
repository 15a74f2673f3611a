/- Lists of ids in memory; the walk of the reference's Short. -/
import Derived.Test.YtplbcncbljcfmaaDoorShaC
namespace Go.Proofs.YtplbcncbljcfmaaDoor
open Go.RowKit

attribute [local simp high] id_size id_zero
/-- A slice that holds the ids ts, in blocks of S. -/
def IDsC (S : Nat → Prop) (w : World) (v : Value) (ts : List (List UInt8)) : Prop :=
  ts = [] ∧ (∃ a c, v = .slice a 0 c) ∨ ∃ a cap, v = .slice (some a) ts.length cap ∧ S a.block ∧ ts.length ≤ cap ∧ ∀ i (h : i < ts.length), ts[i].length = 32 ∧ ∀ j (h2 : j < ts[i].length), w.cell? ((a.add (i * n32)).add j) = some (.int .u8 (ts[i][j].toNat : Nat))
theorem IDsC.shape {S : Nat → Prop} {w : World} {v : Value} {ts : List (List UInt8)} (h : IDsC S w v ts) : ∃ a cap, v = .slice a ts.length cap := by
  rcases h with ⟨rfl, a, c, rfl⟩ | ⟨a, c, rfl, _⟩
  · exact ⟨a, c, rfl⟩
  · exact ⟨some a, c, rfl⟩
theorem IDsC.kept {S S' : Nat → Prop} {w w' : World} {v : Value} {ts : List (List UInt8)} (h : IDsC S w v ts) (hk : ∀ k, S k → S' k ∧ w'.heap[k]? = w.heap[k]?) : IDsC S' w' v ts := by
  rcases h with h | ⟨a, c, h1, h2, h3, h4⟩
  · exact Or.inl h
  · refine Or.inr ⟨a, c, h1, (hk _ h2).1, h3, fun i hi => ⟨(h4 i hi).1, fun j hj => ?_⟩⟩
    rw [← (h4 i hi).2 j hj]
    unfold World.cell?
    rw [add_block, add_block, (hk _ h2).2]
theorem IDsC.cells {S : Nat → Prop} {w : World} {a : Addr} {cap : Nat} {ts : List (List UInt8)} (h : IDsC S w (.slice (some a) ts.length cap) ts) (j : Nat) (hj : j < ts.length) : (loadCellsFrom (a.add (j * n32)) 0 n32 #[]).run Tryd.prog w = .ok (bv (ts.getD j [])).toArray w := by
  have ej : ts.getD j [] = ts[j] := by simp [List.getD, List.getElem?_eq_getElem hj]
  rw [ej]
  rcases h with ⟨h0, _⟩ | ⟨a', c', h1, h2, h3, h4⟩
  · rw [h0] at hj; exact absurd hj (by simp)
  injection h1 with h1 _ h1c
  injection h1 with h1
  subst h1
  have := run_loadCells_list (P := Tryd.prog) w (a.add (j * n32)) (bv ts[j]) (fun i v hv => by
    have hi : i < ts[j].length := by
      have := (List.getElem?_eq_some_iff.1 hv).1
      rwa [bv_len] at this
    rw [(h4 j hj).2 i hi]
    have := bv_at hi
    rw [← hv, ← this]
    simp)
  have e : (bv ts[j]).length = n32 := by rw [bv_len, (h4 j hj).1]; rfl
  rw [e] at this
  simpa [loadCells] using this
theorem IDsC.len {S : Nat → Prop} {w : World} {v : Value} {ts : List (List UInt8)} (h : IDsC S w v ts) (j : Nat) (hj : j < ts.length) : (ts.getD j []).length = 32 := by
  have ej : ts.getD j [] = ts[j] := by simp [List.getD, List.getElem?_eq_getElem hj]
  rw [ej]
  rcases h with ⟨h0, _⟩ | ⟨a', c', h1, h2, h3, h4⟩
  · rw [h0] at hj; exact absurd hj (by simp)
  · exact (h4 j hj).1
def pfx (s t : List UInt8) : Nat → Nat → Nat
  | 0, k => k
  | f + 1, k => if (s.getD k 0).toNat = (t.getD k 0).toNat then pfx s t f (k + 1) else k
theorem pfx_le (s t : List UInt8) (f k : Nat) : pfx s t f k ≤ k + f := by
  induction f generalizing k with
  | zero => exact Nat.le_refl _
  | succ f ih =>
    unfold pfx
    split
    · have := ih (k + 1); omega
    · omega
def stepN (n c : Nat) : Nat := if c < 64 ∧ n < c + 1 then c + 1 else n
def shortAt (s : List UInt8) (ts : List (List UInt8)) : Nat → Nat
  | 0 => 4
  | i + 1 => stepN (shortAt s ts i) (pfx s (hexL (ts.getD i [])) 64 0)
theorem shortAt_le (s : List UInt8) (ts : List (List UInt8)) (i : Nat) : 4 ≤ shortAt s ts i ∧ shortAt s ts i ≤ 64 := by
  induction i with
  | zero => unfold shortAt; omega
  | succ i ih => unfold shortAt stepN; split <;> omega
set_option maxHeartbeats 1000000 in
theorem rshort_any (S : Nat → Prop) (l : List UInt8) (v : Value) (ts : List (List UInt8)) (w : World) (hl : l.length = 32) (hts : ts.length ≤ 9223372036854775807) (hS : ∀ k, S k → k < w.heap.size) (hv : IDsC S w v ts) :
    Calls Tryd.prog 23 #[.agg (bv l).toArray, v] w fun e w' => e = .returned (.string ⟨((hexL l).take (shortAt (hexL l) ts ts.length)).toArray⟩) ∧ Below w.heap.size w w' := by
  obtain ⟨a, cap, rfl⟩ := hv.shape
  have HS := Lib.hid hS
  have HV := Lib.hid hv
  have HL := Lib.hid hl
  have i1 : IDAt (w.alloc (.cells (bv l).toArray 25)) w.heap.size l := ⟨hl, new_five w _ _⟩
  have hb1 := (Below.refl w.heap.size w).alloc (Nat.le_refl _) (.cells (bv l).toArray 25)
  have c1 := i1.cells
  clear hv hS hl
  have HB := Lib.hid hb1
  have HT := Lib.hid hts
  clear hb1 i1 hts
  go_enter Tryd.func23, Tryd.ntmps23
  go_wp2_with fail
  clear c1
  generalize w.alloc (.cells (bv l).toArray 25) = w1 at *
  refine (rhex_any l w1 HL.out).mono ?_
  rintro e w2 ⟨rfl, hb2⟩
  have HB2 := Lib.hid (HB.out.trans (hb2.mono HB.out.size))
  clear hb2
  go_wp2_with fail
  go_loopw [6, 7] (fun n i wr => ∃ j : Nat, j ≤ ts.length ∧ i = .int .i64 j ∧ n = .int .i64 (shortAt (hexL l) ts j : Nat) ∧ Below w.heap.size w wr) (fun _ i _ => ts.length - (intOf i).toNat)
  case atStart => exact ⟨0, Nat.zero_le _, rfl, rfl, HB2.out⟩
  case round =>
    obtain ⟨j, hj, rfl, rfl, hbw⟩ := hrel
    have HBW := Lib.hid hbw
    clear hbw
    by_cases hlt : j < ts.length
    · have hv : IDsC S wr (.slice a ts.length cap) ts := HV.out.kept (fun k hk => ⟨hk, HBW.out.block k (HS.out k hk)⟩)
      rcases a with _ | a
      · rcases hv with ⟨h0, _⟩ | ⟨a', cap', h1, _⟩
        · rw [h0] at hlt; exact absurd hlt (by simp)
        · exact absurd h1 (by simp)
      have c4 := hv.cells j hlt
      have HTL := Lib.hid (hv.len j hlt)
      have HSJ : Hid (shortAt (hexL l) ts (j + 1) = stepN (shortAt (hexL l) ts j) (pfx (hexL l) (hexL (ts.getD j [])) 64 0)) := Lib.hid rfl
      have HN := Lib.hid (shortAt_le (hexL l) ts j)
      clear hv
      generalize ts.getD j [] = t at *
      go_wp2_with fail
      clear c4
      refine (rhex_any t wr HTL.out).mono ?_
      rintro e w3 ⟨rfl, hb3⟩
      have HB3 := Lib.hid (HBW.out.trans (hb3.mono HBW.out.size))
      clear hb3
      have HLS : Hid ((hexL l).length = 64) := Lib.hid (by rw [hexL_len, HL.out])
      have HLT : Hid ((hexL t).length = 64) := Lib.hid (by rw [hexL_len, HTL.out])
      go_wp2_with fail
      go_loopw [9] (fun x w4 => ∃ k n : Nat, k ≤ 64 ∧ x = .int .i64 k ∧ pfx (hexL l) (hexL t) (64 - k) k = pfx (hexL l) (hexL t) 64 0 ∧ w4 = w3.drewN n) (fun x _ => 64 - (intOf x).toNat)
      case atStart => exact ⟨0, 0, Nat.zero_le _, rfl, rfl, rfl⟩
      case round =>
        obtain ⟨k, n, hk, rfl, hpf, rfl⟩ := hrel
        by_cases hk2 : k < 64
        · have hix := fun w => indexS w (hexL l) k (by rw [HLS.out]; exact hk2)
          have hiy := fun w => indexS w (hexL t) k (by rw [HLT.out]; exact hk2)
          have hpf2 : pfx (hexL l) (hexL t) (64 - k) k = if ((hexL l).getD k 0).toNat = ((hexL t).getD k 0).toNat then pfx (hexL l) (hexL t) (64 - (k + 1)) (k + 1) else k := by
            rw [show 64 - k = (64 - (k + 1)) + 1 by omega]; rfl
          rw [hpf] at hpf2
          have HPF := Lib.hid hpf2
          clear hpf hpf2
          have g1 : decide ((k : Int) < 64) = true := by rw [decide_eq_true_iff]; omega
          generalize ((hexL l).getD k 0).toNat = x at *
          generalize ((hexL t).getD k 0).toNat = y at *
          by_cases hxy : x = y
          · subst hxy
            have HP := Lib.hid (HPF.out.trans (if_pos rfl))
            clear HPF
            go_wp2_with fail
            go_quiet (fail)
            go_wp2_with fail
            go_roundw
            case rel => exact ⟨k + 1, _, by omega, by go_num, HP.out.symm, rfl⟩
            case measure => simp [intOf]; omega
          · have hne : ((x : Int) == (y : Int)) = false := by rw [beq_eq_false_iff_ne]; omega
            have HP := Lib.hid (HPF.out.trans (if_neg hxy))
            clear HPF hxy
            have hn1 := HN.out.2
            have hjb := HT.out
            go_wp2_with fail
            go_quiet (fail)
            go_wp2_with fail
            all_goals
              refine ⟨⟨j + 1, by omega, by go_num, ?_, HB3.out.trans (below_drewN _ _ _)⟩, by simp only [intOf]; omega⟩
              have hst := HSJ.out
              rw [HP.out] at hst
              unfold stepN at hst
              congr 1
              split at hst <;> omega
        · have hkn : k = 64 := by omega
          subst hkn
          have HP : Hid (64 = pfx (hexL l) (hexL t) 64 0) := Lib.hid hpf
          clear hpf
          have hn1 := HN.out.2
          have hjb := HT.out
          go_wp2_with fail
          go_quiet (fail)
          go_wp2_with fail
          all_goals
            refine ⟨⟨j + 1, by omega, by go_num, ?_, HB3.out.trans (below_drewN _ _ _)⟩, by simp only [intOf]; omega⟩
            have hst := HSJ.out
            rw [← HP.out] at hst
            unfold stepN at hst
            congr 1
            split at hst <;> omega
    · have hjn : j = ts.length := by omega
      subst hjn
      have hn := shortAt_le (hexL l) ts ts.length
      have HLS : Hid ((hexL l).length = 64) := Lib.hid (by rw [hexL_len, HL.out])
      have hn2 : shortAt (hexL l) ts ts.length ≤ (hexL l).length := by rw [HLS.out]; exact hn.2
      go_wp2_with fail
      go_ret
      exact ⟨by rw [extract_list]; simp, HBW.out⟩
end Go.Proofs.YtplbcncbljcfmaaDoor
