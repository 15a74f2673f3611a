/- The walks of the reference's open, Kind, text, id, ids. The walks of the reference's id, ids. -/
import Derived.Test.YtdolonkeanlaoaaObRa
namespace Go.Proofs.Ytdolonkeanlaoaa
open Go.RowKit
attribute [local simp high] id_size id_zero

def codA {α : Type} (r : Except Int α) : Int := match r with
  | .ok _ => 0
  | .error c => c
set_option maxRecDepth 100000 in
set_option maxHeartbeats 2000000 in
theorem dopen_any (s : List UInt8) (kind count : Nat) (w : World) (hm : s.length ≤ 281474976710656) (hk : kind ≤ 1000) (hc1 : 1 ≤ count) (hc5 : count ≤ 5) :
    Calls Try.prog 53 #[.string ⟨s.toArray⟩, .int .i64 kind, .int .i64 count] w (FaceR (fun w' v vs => ListV w w' 15 v vs) (.slice none 0 0) w (fieldsR s kind count)) := by
  have hst := run_storeF
  have HD := Lib.hid (rdecode_any s w hm)
  unfold fieldsR
  clear hm
  cases hd : decR s with
  | error c =>
    rw [hd] at HD
    rw [andR_bad rfl]
    clear hd
    go_enter Try.func53, Try.ntmps53
    go_wp2_with fail
    refine HD.out.mono ?_
    rintro e w1 ⟨rfl, hc0, hb1⟩
    have HB := Lib.hid hb1
    have g : (c != 0) = true := by rw [bne_iff_ne]; exact hc0
    clear hb1 hc0
    go_wp2_with fail
    go_ret2
    exact ⟨rfl, HB.out.alloc HB.out.size _⟩
  | ok x =>
    rw [hd] at HD
    rw [andR_of rfl]
    clear hd
    go_enter Try.func53, Try.ntmps53
    go_wp2_with fail
    refine HD.out.mono ?_
    rintro e w1 ⟨vx, rfl, hx, hb1⟩
    obtain ⟨a1, c1, a2, c2, rfl, h2, h3, h4, h5, h6, h7⟩ := hx.parts
    obtain ⟨m, hmm⟩ : ∃ m, x.list.length = m := ⟨_, rfl⟩
    rw [hmm] at h7 ⊢
    have HHL := Lib.hid hmm
    obtain ⟨w2, hw2⟩ : ∃ w2, w2 = w1.alloc (.cells #[.int .i64 x.kind, .int .u64 x.num, .slice a1 x.bytes.length c1, .float .f64 x.real, .slice a2 m c2] 82) := ⟨_, rfl⟩
    have HB2 : Hid (Below w.heap.size w w2) := Lib.hid (by rw [hw2]; exact hb1.alloc hb1.size _)
    have HBW : Hid (Below w1.heap.size w1 w2) := Lib.hid (by rw [hw2]; exact (Below.refl _ w1).alloc (Nat.le_refl _) _)
    have HS1 := Lib.hid hb1.size
    have HL := Lib.hid h7
    obtain ⟨⟨q0, q1, q2, q3, q4⟩, _⟩ := five_cells (show w2.heap[w1.heap.size]? = some (.cells #[.int .i64 x.kind, .int .u64 x.num, .slice a1 x.bytes.length c1, .float .f64 x.real, .slice a2 m c2] 82 (0, 0)) by rw [hw2]; exact new_five w1 _ _)
    have HW2 := Lib.hid hw2
    clear hx hb1 h2 h3 h4 h5 h6 h7 hmm hw2
    go_upto_region 4 with fail
    rw [← HW2.out]
    have hw1 : IntKind.i64.wrap ((count : Int) + 1) = (count : Int) + 1 := IntWalk.i64_in _ (by omega)
    have hku : IntKind.u64.wrap (kind : Int) = (kind : Int) := IntWalk.u64_in _ (by omega)
    by_cases k3 : x.kind = 3
    · by_cases hn : m = count + 1
      · obtain ⟨y, hy⟩ : ∃ y, x.list[0]? = some y := ⟨_, List.getElem?_eq_getElem (by rw [HHL.out]; omega)⟩
        have hL := HL.out
        rw [← HHL.out] at hL
        obtain ⟨g, o, b1, d1, b2, d2, rfl, hg, hlc, hcm, ⟨e0, e1, _⟩, _⟩ := hL.el hy
        rw [HHL.out] at hlc
        clear hL
        simp only [Nat.zero_mul, Nat.add_zero] at e0 e1
        replace e0 : w2.cell? ⟨g, o, none⟩ = some (.int .i64 y.kind) := (World.cell?_of_block (w := w1) (HBW.out.block g hg.2)).trans e0
        replace e1 : w2.cell? ⟨g, o + 1, none⟩ = some (.int .u64 y.num) := (World.cell?_of_block (w := w1) (HBW.out.block g hg.2)).trans e1
        have hy0 : x.list.getD 0 (numV 0) = y := at0_get hy
        have g3 : (x.kind != 3) = false := by rw [k3]; rfl
        have gl : ((m : Int) != (count : Int) + 1) = false := by rw [hn]; simp
        have gm : (0 : Int) < (m : Int) := by omega
        have gm2 : 0 < m := by omega
        have HF : Hid (fieldsV kind count x = if y.kind ≠ 0 then .error 91 else if y.num ≠ kind then .error 90 else .ok (x.list.drop 1)) := Lib.hid (by
          unfold fieldsV
          rw [hy0, HHL.out]
          by_cases h : y.kind = 0
          · rw [if_neg (by simp [k3, hn, h]), if_neg (show ¬ (y.kind ≠ 0) from fun z => z h)]
          · rw [if_pos (by simp [h]), if_pos h])
        have HLN := Lib.hid hn
        have HHG := Lib.hid hg
        have hcl : count + 1 ≤ c2 := by omega
        have HCM := Lib.hid hcm
        clear hn hy hy0 k3 hlc hg hcm
        by_cases hy0 : y.kind = 0
        · have gy : (y.kind != 0) = false := by rw [hy0]; rfl
          by_cases hkk : y.num = kind
          · have HE : Hid (fieldsV kind count x = .ok (x.list.drop 1)) := Lib.hid (by rw [HF.out, if_neg (show ¬ (y.kind ≠ 0) from fun h => h hy0), if_neg (show ¬ (y.num ≠ kind) from fun h => h hkk)])
            have g9 : ((y.num : Int) != (kind : Int)) = false := by rw [hkk]; simp
            have hcw : (1 : Int) ≤ (c2 : Int) := by omega
            have hmw : (1 : Int) ≤ (m : Int) := by omega
            clear hkk hy0
            go_wp2_with fail
            go_ret2
            rw [HE.out]
            refine ⟨_, rfl, ?_, HB2.out⟩
            have hm := HLN.out
            have h10 := HL.out.tail HHL.out
            exact ListS.kept (by rw [List.length_drop, HHL.out]; omega) h10 (fun k hk => ⟨⟨hk.1, by have := hk.2; have := HBW.out.size; omega⟩, HBW.out.block k hk.2⟩)
          · have HE : Hid (fieldsV kind count x = .error 90) := Lib.hid (by rw [HF.out, if_neg (show ¬ (y.kind ≠ 0) from fun h => h hy0), if_pos hkk])
            have g9 : ((y.num : Int) != (kind : Int)) = true := by rw [bne_iff_ne]; omega
            clear hkk hy0
            go_wp2_with fail
            go_ret2
            rw [HE.out]
            exact ⟨rfl, HB2.out⟩
        · have HE : Hid (fieldsV kind count x = .error 91) := Lib.hid (by rw [HF.out, if_pos hy0])
          have gy : (y.kind != 0) = true := by rw [bne_iff_ne]; exact hy0
          clear hy0
          go_wp2_with fail
          go_ret2
          rw [HE.out]
          exact ⟨rfl, HB2.out⟩
      · have HE : Hid (fieldsV kind count x = .error 91) := Lib.hid (by unfold fieldsV; rw [if_pos (Or.inr (Or.inl (by rw [HHL.out]; exact hn)))])
        have g3 : (x.kind != 3) = false := by rw [k3]; rfl
        have gl : ((m : Int) != (count : Int) + 1) = true := by rw [bne_iff_ne]; omega
        clear hn k3
        go_wp2_with fail
        go_ret2
        rw [HE.out]
        exact ⟨rfl, HB2.out⟩
    · have HE : Hid (fieldsV kind count x = .error 91) := Lib.hid (by unfold fieldsV; rw [if_pos (Or.inl k3)])
      have g3 : (x.kind != 3) = true := by rw [bne_iff_ne]; exact k3
      clear k3
      go_wp2_with fail
      go_ret2
      rw [HE.out]
      exact ⟨rfl, HB2.out⟩
set_option maxRecDepth 100000 in
set_option maxHeartbeats 2000000 in
theorem dkind_any (s : List UInt8) (w : World) (hm : s.length ≤ 281474976710656) :
    Calls Try.prog 26 #[.string ⟨s.toArray⟩] w (FaceR KindA (.int .i64 0) w (kindR s)) := by
  have hst := run_storeF
  have HD := Lib.hid (rdecode_any s w hm)
  unfold kindR
  clear hm
  cases hd : decR s with
  | error c =>
    rw [hd] at HD
    rw [andR_bad rfl]
    clear hd
    go_enter Try.func26, Try.ntmps26
    go_wp2_with fail
    refine HD.out.mono ?_
    rintro e w1 ⟨rfl, hc0, hb1⟩
    have HB := Lib.hid hb1
    have g : (c != 0) = true := by rw [bne_iff_ne]; exact hc0
    clear hb1 hc0
    go_wp2_with fail
    go_ret2
    exact ⟨rfl, HB.out.alloc HB.out.size _⟩
  | ok x =>
    rw [hd] at HD
    rw [andR_of rfl]
    clear hd
    go_enter Try.func26, Try.ntmps26
    go_wp2_with fail
    refine HD.out.mono ?_
    rintro e w1 ⟨vx, rfl, hx, hb1⟩
    obtain ⟨a1, c1, a2, c2, rfl, h2, h3, h4, h5, h6, h7⟩ := hx.parts
    obtain ⟨m, hmm⟩ : ∃ m, x.list.length = m := ⟨_, rfl⟩
    rw [hmm] at h7 ⊢
    have HHL := Lib.hid hmm
    obtain ⟨w2, hw2⟩ : ∃ w2, w2 = w1.alloc (.cells #[.int .i64 x.kind, .int .u64 x.num, .slice a1 x.bytes.length c1, .float .f64 x.real, .slice a2 m c2] 82) := ⟨_, rfl⟩
    have HB2 : Hid (Below w.heap.size w w2) := Lib.hid (by rw [hw2]; exact hb1.alloc hb1.size _)
    have HBW : Hid (Below w1.heap.size w1 w2) := Lib.hid (by rw [hw2]; exact (Below.refl _ w1).alloc (Nat.le_refl _) _)
    have HL := Lib.hid h7
    obtain ⟨⟨q0, q1, q2, q3, q4⟩, _⟩ := five_cells (show w2.heap[w1.heap.size]? = some (.cells #[.int .i64 x.kind, .int .u64 x.num, .slice a1 x.bytes.length c1, .float .f64 x.real, .slice a2 m c2] 82 (0, 0)) by rw [hw2]; exact new_five w1 _ _)
    have HW2 := Lib.hid hw2
    clear hx hb1 h2 h3 h4 h5 h6 h7 hmm hw2
    go_upto_region 4 with fail
    rw [← HW2.out]
    by_cases k3 : x.kind = 3
    · have g3 : (x.kind != 3) = false := by rw [k3]; rfl
      by_cases hn : 0 < m
      · obtain ⟨y, hy⟩ : ∃ y, x.list[0]? = some y := ⟨_, List.getElem?_eq_getElem (by rw [HHL.out]; omega)⟩
        have hL := HL.out
        rw [← HHL.out] at hL
        obtain ⟨g, o, b1, d1, b2, d2, rfl, hg, hlc, hcm, ⟨e0, e1, _⟩, hRy⟩ := hL.el hy
        obtain ⟨_, _, _, _, _, hnum, _⟩ := hRy.parts
        clear hL hlc hcm hRy
        simp only [Nat.zero_mul, Nat.add_zero] at e0 e1
        replace e0 : w2.cell? ⟨g, o, none⟩ = some (.int .i64 y.kind) := (World.cell?_of_block (w := w1) (HBW.out.block g hg.2)).trans e0
        replace e1 : w2.cell? ⟨g, o + 1, none⟩ = some (.int .u64 y.num) := (World.cell?_of_block (w := w1) (HBW.out.block g hg.2)).trans e1
        have hy0 : x.list.getD 0 (numV 0) = y := at0_get hy
        have gl : ((m : Int) == 0) = false := by rw [beq_eq_false_iff_ne]; omega
        have gm : (0 : Int) < (m : Int) := by omega
        have HF : Hid (kindV x = if y.kind ≠ 0 then .error 91 else if y.num < 1 ∨ 4 < y.num then .error 90 else .ok y.num) := Lib.hid (by
          unfold kindV
          rw [hy0, HHL.out]
          have hm0 : m ≠ 0 := by omega
          by_cases h : y.kind = 0
          · rw [if_neg (by simp [k3, hm0, h])]; simp only [h, ne_eq, not_true, if_false]
          · rw [if_pos (by simp [h]), if_pos h])
        clear hy hy0 k3 hg
        by_cases hy0 : y.kind = 0
        · have gy : (y.kind != 0) = false := by rw [hy0]; rfl
          by_cases h1 : y.num < 1
          · have HE : Hid (kindV x = .error 90) := Lib.hid (by rw [HF.out, if_neg (show ¬ (y.kind ≠ 0) from fun h => h hy0), if_pos (Or.inl h1)])
            have g1 : decide ((y.num : Int) < 1) = true := decide_eq_true (by omega)
            have g2 : decide (y.num < 1) = true := decide_eq_true h1
            clear hy0 h1
            go_wp2_with fail
            go_ret2
            rw [HE.out]
            exact ⟨rfl, HB2.out⟩
          · have g1 : decide ((y.num : Int) < 1) = false := decide_eq_false (by omega)
            have g1n : decide (y.num < 1) = false := decide_eq_false h1
            by_cases h4 : 4 < y.num
            · have HE : Hid (kindV x = .error 90) := Lib.hid (by rw [HF.out, if_neg (show ¬ (y.kind ≠ 0) from fun h => h hy0), if_pos (Or.inr h4)])
              have g2 : decide ((y.num : Int) > 4) = true := decide_eq_true (by omega)
              have g3' : decide ((4 : Int) < (y.num : Int)) = true := decide_eq_true (by omega)
              have g4 : decide (4 < y.num) = true := decide_eq_true h4
              clear hy0 h1 h4
              go_wp2_with fail
              go_ret2
              rw [HE.out]
              exact ⟨rfl, HB2.out⟩
            · have HE : Hid (kindV x = .ok y.num) := Lib.hid (by rw [HF.out, if_neg (show ¬ (y.kind ≠ 0) from fun h => h hy0), if_neg (by omega)])
              have g2 : decide ((y.num : Int) > 4) = false := decide_eq_false (by omega)
              have g3' : decide ((4 : Int) < (y.num : Int)) = false := decide_eq_false (by omega)
              have g4 : decide (4 < y.num) = false := decide_eq_false h4
              have hwr : IntKind.i64.wrap (y.num : Int) = (y.num : Int) := IntWalk.i64_in _ (by omega)
              clear hy0 h1 h4
              go_wp2_with fail
              go_ret2
              rw [HE.out]
              exact ⟨_, rfl, rfl, HB2.out⟩
        · have HE : Hid (kindV x = .error 91) := Lib.hid (by rw [HF.out, if_pos hy0])
          have gy : (y.kind != 0) = true := by rw [bne_iff_ne]; exact hy0
          clear hy0
          go_wp2_with fail
          go_ret2
          rw [HE.out]
          exact ⟨rfl, HB2.out⟩
      · have HE : Hid (kindV x = .error 91) := Lib.hid (by unfold kindV; rw [if_pos (Or.inr (Or.inl (by rw [HHL.out]; omega)))])
        obtain rfl : m = 0 := by omega
        clear hn k3
        go_wp2_with fail
        go_ret2
        rw [HE.out]
        exact ⟨rfl, HB2.out⟩
    · have HE : Hid (kindV x = .error 91) := Lib.hid (by unfold kindV; rw [if_pos (Or.inl k3)])
      have g3 : (x.kind != 3) = true := by rw [bne_iff_ne]; exact k3
      clear k3
      go_wp2_with fail
      go_ret2
      rw [HE.out]
      exact ⟨rfl, HB2.out⟩
set_option maxRecDepth 100000 in
set_option maxHeartbeats 1000000 in
theorem dtext_any (S : Nat → Prop) (n most : Nat) (v : Value) (x : Val) (w : World) (hx : ReadsS S w (n + 1) v x) :
    Calls Try.prog 54 #[v, .int .i64 most] w fun e w' => e = .returned (.int .i64 (codA (textR most x))) ∧ Below w.heap.size w w' := by
  obtain ⟨a1, c1, a2, c2, rfl, h2, h3, h4, h5, h6, h7⟩ := hx.parts
  clear h6 h7 hx h2 h3 h4 h5
  by_cases hk : x.kind = 1
  · have g : (x.kind != 1) = false := by rw [hk]; rfl
    by_cases hl : most < x.bytes.length
    · have e : textR most x = .error 2 := by unfold textR; rw [if_neg (by omega), if_pos hl]
      rw [e]
      clear e hk
      go_enter Try.func54, Try.ntmps54
      go_wp2_with fail
      go_ret
      exact ⟨rfl, (Below.refl _ w).alloc (Nat.le_refl _) _⟩
    · have e : textR most x = .ok x.bytes := by unfold textR; rw [if_neg (by omega), if_neg hl]
      rw [e]
      clear e hk
      go_enter Try.func54, Try.ntmps54
      go_wp2_with fail
      go_ret
      exact ⟨rfl, (Below.refl _ w).alloc (Nat.le_refl _) _⟩
  · have e : textR most x = .error 91 := by unfold textR; rw [if_pos hk]
    rw [e]
    have g : (x.kind != 1) = true := by rw [bne_iff_ne]; exact hk
    clear e hk
    go_enter Try.func54, Try.ntmps54
    go_wp2_with fail
    go_ret
    exact ⟨rfl, (Below.refl _ w).alloc (Nat.le_refl _) _⟩
end Go.Proofs.Ytdolonkeanlaoaa
namespace Go.Proofs.Ytdolonkeanlaoaa
open Go.RowKit
attribute [local simp high] id_size id_zero

theorem getD_lt {l : List UInt8} {k : Nat} (h : k < l.length) : l[k]'h = l.getD k 0 := by simp [List.getD, List.getElem?_eq_getElem h]
set_option maxRecDepth 100000 in
set_option maxHeartbeats 4000000 in
theorem did_any (S : Nat → Prop) (n : Nat) (v : Value) (x : Val) (w : World) (hS : ∀ k, S k → k < w.heap.size) (hx : ReadsS S w (n + 1) v x) :
    Calls Try.prog 63 #[v] w (FaceR (fun _ v X => v = .agg (bv X).toArray ∧ X.length = 32) (.agg (bv zeros).toArray) w (nameR x)) := by
  obtain ⟨a1, c1, a2, c2, rfl, h2, h3, h4, h5, h6, h7⟩ := hx.parts
  have hst := run_storeF
  obtain ⟨mb, hmb⟩ : ∃ m, x.bytes.length = m := ⟨_, rfl⟩
  obtain ⟨ml, hml⟩ : ∃ m, x.list.length = m := ⟨_, rfl⟩
  rw [hmb] at h6 ⊢
  rw [hml]
  obtain ⟨w1, hw1⟩ : ∃ w1, w1 = ((w.alloc (.cells #[.int .i64 x.kind, .int .u64 x.num, .slice a1 mb c1, .float .f64 x.real, .slice a2 ml c2] 82)).alloc (.cells (bv zeros).toArray 27)).alloc (.cells (bv zeros).toArray 27) := ⟨_, rfl⟩
  have hsz1 : w1.heap.size = w.heap.size + 3 := by rw [hw1]; simp
  have hB1 : Below w.heap.size w w1 := by rw [hw1]; exact (((Below.refl w.heap.size w).alloc (Nat.le_refl _) _).alloc (by simp) _).alloc (by simp; omega) _
  have hblk : w1.heap[w.heap.size]? = some (.cells #[.int .i64 x.kind, .int .u64 x.num, .slice a1 mb c1, .float .f64 x.real, .slice a2 ml c2] 82 (0, 0)) := by
    rw [hw1]; exact (Below.heap_alloc _ _ _ (by simp; omega)).trans ((Below.heap_alloc _ _ _ (by simp)).trans (new_five w _ _))
  have hI1 : IDAt w1 (w.heap.size + 1) zeros := ⟨rfl, by
    rw [hw1]
    have h := new_five (w.alloc (.cells #[.int .i64 x.kind, .int .u64 x.num, .slice a1 mb c1, .float .f64 x.real, .slice a2 ml c2] 82)) (bv zeros).toArray 27
    rw [World.size_alloc] at h
    exact (Below.heap_alloc _ _ _ (by simp)).trans h⟩
  have hI2 : IDAt w1 (w.heap.size + 1 + 1) zeros := ⟨rfl, by
    rw [hw1]
    have h := new_five ((w.alloc (.cells #[.int .i64 x.kind, .int .u64 x.num, .slice a1 mb c1, .float .f64 x.real, .slice a2 ml c2] 82)).alloc (.cells (bv zeros).toArray 27)) (bv zeros).toArray 27
    rw [World.size_alloc, World.size_alloc] at h
    exact h⟩
  have hby : BytesC S w1 (.slice a1 mb c1) x.bytes := h6.kept (fun k hk => ⟨hk, hB1.block k (hS k hk)⟩)
  have HB1 := Lib.hid hB1
  have HI1 := Lib.hid hI1
  have HI2 := Lib.hid hI2
  have HBY := Lib.hid hby
  have HBK := Lib.hid hblk
  have HSZ := Lib.hid hsz1
  have HS := Lib.hid hS
  have HMB := Lib.hid hmb
  have HW1 := Lib.hid hw1
  have zl := zeros_len
  have st0 := hI2.write (l := zeros) rfl
  rw [setRow_self _ _ _ _ _ hI2.blk, hw1] at st0
  clear h2 h3 h4 h5 h6 h7 hx hmb hml hsz1 hB1 hblk hI1 hI2 hby hS hw1
  by_cases hk : x.kind = 1
  · have g : (x.kind != 1) = false := by rw [hk]; rfl
    by_cases hl : mb = 32
    · have e : nameR x = .ok x.bytes := by unfold nameR; rw [HMB.out, if_neg (by omega)]
      rw [e]
      have hX : x.bytes.length = 32 := by rw [HMB.out]; exact hl
      generalize x.bytes = X at *
      have HX := Lib.hid hX
      subst hl
      clear e hk hX HMB
      obtain ⟨q, rfl, hcl, hcm, hqS, hqc⟩ : ∃ q, a1 = some q ∧ 32 ≤ c1 ∧ c1 ≤ maxLen ∧ S q.block ∧ ∀ j (hj : j < X.length), w1.cell? (q.add j) = some (.int .u8 (X[j].toNat : Int)) := by
        rcases HBY.out with ⟨e, rfl⟩ | ⟨q, cap, e, k1, k2, k3, k4⟩
        · have := HX.out; simp at this
        · injection e with e1 e2 e3
          subst e1 e3
          refine ⟨q, rfl, by rw [← HX.out]; exact k1, k2, ?_, fun j hj => k4 j _ (by have := bv_at hj; simpa using this)⟩
          rcases k3 with rfl | k3
          · have := HX.out; simp at this
          · exact k3
      have HQC := Lib.hid hqc
      have HQS : Hid (q.block < w.heap.size) := Lib.hid (HS.out _ hqS)
      clear hqc hqS hcm
      go_enter Try.func63, Try.ntmps63
      go_upto_region 2 with fail
      rw [← HW1.out]
      clear st0
      obtain ⟨⟨p0, p1, p2, p3, p4⟩, _⟩ := five_cells HBK.out
      go_wp2_with fail
      clear p0 p1 p2 p3 p4
      go_loopw [5] (fun i wr => ∃ k : Nat, k ≤ 32 ∧ i = .int .i64 (k : Int) ∧ Hid (IDAt wr (w.heap.size + 1 + 1) (X.take k ++ zeros.drop k)) ∧ Hid (Below (w.heap.size + 1 + 1) w1 wr)) (fun i _ => 32 - (intOf i).toNat)
      case atStart => exact ⟨0, Nat.zero_le _, rfl, HI2, Lib.hid (Below.refl _ _)⟩
      case round =>
        obtain ⟨k, hkk, rfl, h1, h2⟩ := hrel
        obtain ⟨⟨p0, p1, p2, p3, p4⟩, _⟩ := five_cells ((h2.out.block w.heap.size (by omega)).trans HBK.out)
        by_cases hlt : k < 32
        · have hc : wr.cell? (q.add k) = some (.int .u8 ((X.getD k 0).toNat : Int)) := by
            rw [← getD_lt (show k < X.length by rw [HX.out]; exact hlt)]
            exact (World.cell?_of_block (w := w1) (by rw [add_block]; exact h2.out.block _ (by have := HQS.out; omega))).trans (HQC.out k (by rw [HX.out]; exact hlt))
          have HN := Lib.hid (fill_next HX.out zeros_32 hlt)
          generalize X.getD k 0 = c at *
          have hu := h1.out.cell k (by rw [h1.out.len]; exact hlt)
          have hf := h1.out.free k
          have HR := Lib.hid (h1.out.set k c.toNat (UInt8.toNat_lt c))
          have HB := Lib.hid (h2.out.setCell (p := ⟨w.heap.size + 1 + 1, k, none⟩) (Nat.le_refl _) (.int .u8 (c.toNat : Int)))
          have HCC : Hid (UInt8.ofNat c.toNat = c) := Lib.hid (by simp)
          go_wp2_with fail
          go_roundw
          case rel => exact ⟨k + 1, by omega, by go_num, Lib.hid (by rw [← HN.out]; have := HR.out; rw [HCC.out] at this; exact this), HB⟩
          case measure => simp [intOf]; omega
        · have hk32 : k = 32 := by omega
          subst hk32
          have HF : Hid (IDAt wr (w.heap.size + 1 + 1) X) := Lib.hid (by
            have h := h1.out
            rw [List.take_of_length_le (by rw [HX.out]; omega), List.drop_of_length_le (by rw [zeros_32]; omega), List.append_nil] at h
            exact h)
          have i1 : IDAt wr (w.heap.size + 1) zeros := HI1.out.kept (h2.out.block _ (by omega))
          have lc := HF.out.cells
          have st := i1.write HX.out
          have zx : (bv X).length = n32 := by rw [bv_len, HX.out]; rfl
          have HP := Lib.hid (i1.put HX.out)
          have HBB : Hid (Below w.heap.size w (wr.setRow (w.heap.size + 1) (bv X).toArray)) := Lib.hid (below_setRow (HB1.out.trans (h2.out.mono (by omega))) (by omega) _)
          clear i1
          go_wp2_with fail
          exact bodyPost_ret (results_id Try.results63 _ _ rfl rfl HP.out) rfl ⟨_, rfl, ⟨rfl, HX.out⟩, HBB.out⟩
    · have e : nameR x = .error 91 := by unfold nameR; rw [HMB.out, if_pos (by omega)]
      rw [e]
      have g2 : ((mb : Int) != 32) = true := by rw [bne_iff_ne]; omega
      have lc := HI2.out.cells
      have st := HI1.out.write (l := zeros) rfl
      rw [setRow_self _ _ _ _ _ HI1.out.blk] at st
      clear e hk hl HMB
      go_enter Try.func63, Try.ntmps63
      go_upto_region 2 with fail
      rw [← HW1.out]
      clear st0
      obtain ⟨⟨p0, p1, p2, p3, p4⟩, _⟩ := five_cells HBK.out
      go_wp2_with fail
      exact bodyPost_ret (results_id Try.results63 _ _ rfl rfl HI1.out) rfl ⟨rfl, HB1.out⟩
  · have e : nameR x = .error 91 := by unfold nameR; rw [if_pos (by omega)]
    rw [e]
    have g : (x.kind != 1) = true := by rw [bne_iff_ne]; exact hk
    have lc := HI2.out.cells
    have st := HI1.out.write (l := zeros) rfl
    rw [setRow_self _ _ _ _ _ HI1.out.blk] at st
    clear e hk HMB
    go_enter Try.func63, Try.ntmps63
    go_upto_region 2 with fail
    rw [← HW1.out]
    clear st0
    obtain ⟨⟨p0, p1, p2, p3, p4⟩, _⟩ := five_cells HBK.out
    go_wp2_with fail
    exact bodyPost_ret (results_id Try.results63 _ _ rfl rfl HI1.out) rfl ⟨rfl, HB1.out⟩
set_option maxRecDepth 100000 in
set_option maxHeartbeats 4000000 in
theorem dids_any (S : Nat → Prop) (n most : Nat) (v : Value) (x : Val) (w : World) (hS : ∀ k, S k → k < w.heap.size) (hx : ReadsS S w (n + 2) v x) :
    Calls Try.prog 57 #[v, .int .i64 most] w (FaceR (IdsV w) (.slice none 0 0) w (namesR most x)) := by
  have hst := run_storeF
  obtain ⟨a1, c1, a2, c2, rfl, h2, h3, h4, h5, h6, h7⟩ := hx.parts
  obtain ⟨m, hm⟩ : ∃ m, x.list.length = m := ⟨_, rfl⟩
  have HM := Lib.hid hm
  have hm20 : m ≤ 1048576 := by rw [← hm]; exact h5
  rw [hm] at h7 ⊢
  obtain ⟨mb, hmb⟩ : ∃ m, x.bytes.length = m := ⟨_, rfl⟩
  rw [hmb]
  obtain ⟨w1, hw1⟩ : ∃ w1, w1 = w.alloc (.cells #[.int .i64 x.kind, .int .u64 x.num, .slice a1 mb c1, .float .f64 x.real, .slice a2 m c2] 82) := ⟨_, rfl⟩
  have HB1 : Hid (Below w.heap.size w w1) := Lib.hid (by rw [hw1]; exact (Below.refl _ w).alloc (Nat.le_refl _) _)
  have HZ1 : Hid (w1.heap.size = w.heap.size + 1) := Lib.hid (by rw [hw1]; simp)
  have HBK : Hid (w1.heap[w.heap.size]? = some (.cells #[.int .i64 x.kind, .int .u64 x.num, .slice a1 mb c1, .float .f64 x.real, .slice a2 m c2] 82 (0, 0))) := Lib.hid (by rw [hw1]; exact new_five w _ _)
  have HL1 : Hid (ListS S w (ReadsS S w (n + 1)) (.slice a2 m c2) x.list) := Lib.hid h7
  have HLL : Hid (x.list.length ≤ 1048576) := Lib.hid h5
  have HS := Lib.hid hS
  have HW1 := Lib.hid hw1
  clear h2 h3 h4 h5 h6 h7 hx hm hmb hS hw1
  by_cases hk : x.kind = 3
  · have g : (x.kind != 3) = false := by rw [hk]; rfl
    by_cases hmost : most < m
    · have e : namesR most x = .error 2 := by unfold namesR listR; rw [HM.out, if_neg (by omega), if_pos hmost]; rfl
      rw [e]
      clear e hk
      go_enter Try.func57, Try.ntmps57
      go_upto_region 1 with fail
      rw [← HW1.out]
      obtain ⟨⟨p0, p1, p2, p3, p4⟩, _⟩ := five_cells HBK.out
      go_wp2_with fail
      go_ret2
      exact ⟨rfl, HB1.out⟩
    · obtain ⟨R, hR⟩ : ∃ R, eachR nameR x.list = R := ⟨_, rfl⟩
      have e : namesR most x = R := by unfold namesR listR; rw [HM.out, if_neg (by omega), if_neg hmost]; exact hR
      rw [e]
      have HR := Lib.hid hR
      clear e hk hR
      go_enter Try.func57, Try.ntmps57
      go_upto_region 1 with fail
      rw [← HW1.out]
      obtain ⟨⟨p0, p1, p2, p3, p4⟩, _⟩ := five_cells HBK.out
      go_wp2_with fail
      clear p0 p1 p2 p3 p4
      go_loopw [6, 7] (fun v i wr => ∃ (k : Nat) (I : List (List UInt8)), k ≤ m ∧ i = .int .i64 (k : Int) ∧ Hid (eachR nameR (x.list.take k) = .ok I) ∧ Hid (wr.ownsRow w1.heap.size 27 32 v I.length (idsV I)) ∧ Hid (∀ y ∈ I, y.length = 32) ∧ Hid (Below w1.heap.size w1 wr))
        (fun _ i _ => m - (intOf i).toNat)
      case atStart => exact ⟨0, [], Nat.zero_le _, rfl, Lib.hid rfl, Lib.hid (World.ownsRow_nil _ _ _ _), Lib.hid (fun y hy => by simp at hy), Lib.hid (Below.refl _ _)⟩
      case round =>
        obtain ⟨k, I, hk, rfl, hE, hO, hI, hB⟩ := hrel
        obtain ⟨⟨p0, p1, p2, p3, p4⟩, _⟩ := five_cells ((hB.out.block w.heap.size (by rw [HZ1.out]; omega)).trans HBK.out)
        have HB0 : Hid (Below w.heap.size w wr) := Lib.hid (HB1.out.trans (hB.out.mono HB1.out.size))
        by_cases hlt : k < m
        · obtain ⟨y, hy⟩ : ∃ y, x.list[k]? = some y := ⟨_, List.getElem?_eq_getElem (by rw [HM.out]; exact hlt)⟩
          have hLw := HL1.out
          rw [← HM.out] at hLw
          have hLk := hLw.kept HLL.out (S' := S) (w' := wr) (fun q hq => ⟨hq, HB0.out.block q (HS.out q hq)⟩)
          obtain ⟨g', o, b1, d1, b2, d2, rfl, hg, hlc, hcm, ⟨e0, e1, e2, e3, e4⟩, hRy⟩ := hLk.el hy
          obtain ⟨n1, n2⟩ := eachR_next hE.out hy
          have HN1 := Lib.hid n1
          have HN2 := Lib.hid n2
          have HC := Lib.hid (did_any S n (.agg #[.int .i64 y.kind, .int .u64 y.num, .slice b1 y.bytes.length d1, .float .f64 y.real, .slice b2 y.list.length d2]) y wr (fun q hq => by have := HS.out q hq; have := HB0.out.size; omega) hRy)
          clear hLw hLk hRy hy n1 n2 hcm hlc
          obtain ⟨yb, hyb⟩ : ∃ q, y.bytes.length = q := ⟨_, rfl⟩
          obtain ⟨yl, hyl⟩ : ∃ q, y.list.length = q := ⟨_, rfl⟩
          rw [hyb] at e2 HC
          rw [hyl] at e4 HC
          obtain ⟨N, hN⟩ : ∃ N, nameR y = N := ⟨_, rfl⟩
          have HNE := Lib.hid hN
          rw [hN] at HC HN1 HN2
          clear hN hyb hyl
          cases N with
          | error c =>
            have hR : Hid (R = .error c) := Lib.hid (by rw [← HR.out]; exact HN2.out c rfl)
            have hc0 : c ≠ 0 := nameR_err (HNE.out)
            have g9 : (c != 0) = true := by rw [bne_iff_ne]; exact hc0
            clear hc0 HN1 HN2
            go_wp2_with fail
            refine HC.out.mono ?_
            rintro e w2 ⟨rfl, hb2⟩
            have HB2 := Lib.hid (HB0.out.trans (hb2.mono HB0.out.size))
            have HB3 : Hid (Below w.heap.size w (w2.alloc (.cells (bv zeros).toArray 27))) := Lib.hid (HB2.out.alloc HB2.out.size _)
            have zl := zeros_len
            have st0 := (IDAt.new w2).write (l := zeros) rfl
            rw [setRow_self _ _ _ _ _ (IDAt.new w2).blk] at st0
            clear hb2
            go_wp2_with fail
            go_ret2
            rw [hR.out]
            exact ⟨rfl, HB3.out⟩
          | ok X =>
            have HE1 : Hid (eachR nameR (x.list.take (k + 1)) = .ok (I ++ [X])) := Lib.hid (HN1.out X rfl)
            go_wp2_with fail
            refine HC.out.mono ?_
            rintro e w2 ⟨vX, rfl, ⟨rfl, hX⟩, hb2⟩
            have zx : (bv X).length = n32 := by rw [bv_len, hX]; rfl
            have i2 := IDAt.new w2
            have st0 := i2.write hX
            have i3 := i2.put hX
            have lc := i3.cells
            have HB2 : Hid (Below wr.heap.size wr ((w2.alloc (.cells (bv zeros).toArray 27)).setRow w2.heap.size (bv X).toArray)) := Lib.hid (below_setRow (hb2.alloc hb2.size _) hb2.size _)
            have zl := zeros_len
            have HX := Lib.hid hX
            clear hb2 i2 i3 hX
            go_upto_region 10 with fail
            clear st0
            generalize (w2.alloc (.cells (bv zeros).toArray 27)).setRow w2.heap.size (bv X).toArray = w3 at *
            have hbi := fun g => build_ids (F := bv X) zx g
            have hnl : (16777216 < n32) = False := by unfold n32; simp
            obtain ⟨i0, hi, hz0, hz1, hz2q⟩ := info_parts id_info
            have HI5 : Hid (∀ z ∈ I ++ [X], z.length = 32) := Lib.hid (fun z hz => by
              rcases List.mem_append.1 hz with hz | hz
              · exact hI.out z hz
              · rw [List.mem_singleton] at hz; rw [hz]; exact HX.out)
            have HO2 := Lib.hid (row_kept (w' := w3) hO.out (fun q hq => HB2.out.block q (World.ownsRow.lt hO.out q hq).2))
            have hil : I.length ≤ 1048576 := by have := eachR_len hE.out; rw [List.length_take, HM.out] at this; omega
            have HIL := Lib.hid hil
            clear hil
            go_wp2_with (at_builtin; refine wpList_own_src _ rfl _ _ 22 22 rfl w1.heap.size 27 i0 (.agg (bv zeros).toArray) 32 32 Try.underlying22 hi hz0 hz1 hz2q rfl (by decide) _ _ _ rfl (World.ownsRow.alloc HO2.out _) _ 1 (bv X) rfl (srcI_one _ X HX.out) ?c3 ?c4 ?c5 ?_)
            case c3 => have := HIL.out; unfold maxLen; omega
            case c4 => have := HIL.out; omega
            case c5 => have := hB.out.size; have := HB2.out.size; simp; omega
            intro v3 w4 hown3 hg3
            have hB3 : Hid (Below w1.heap.size w1 w4) := Lib.hid (((hB.out.trans (HB2.out.mono hB.out.size)).alloc (by have := hB.out.size; have := HB2.out.size; omega) (.cells (bv X).toArray 27)).grown hg3.gb (by have := hB.out.size; have := HB2.out.size; simp; omega) (fun q hq => (World.ownsRow.lt (World.ownsRow.alloc HO2.out (.cells (bv X).toArray 27)) q hq).1))
            have hO3 : Hid (w4.ownsRow w1.heap.size 27 32 v3 (I ++ [X]).length (idsV (I ++ [X]))) := Lib.hid (by rw [idsV_snoc, List.length_append]; exact hown3)
            clear hown3 hg3 lc hbi zx
            go_wp2
            go_roundw
            case rel => exact ⟨k + 1, I ++ [X], by omega, by go_num, HE1, hO3, HI5, hB3⟩
            case measure => simp [intOf]; omega
        · have hR : Hid (R = .ok I) := Lib.hid (by
            have := hE.out
            rw [List.take_of_length_le (by rw [HM.out]; omega)] at this
            rw [← HR.out]; exact this)
          obtain ⟨ia, ic, hia⟩ := row_shape_any hO.out
          have HO2 : Hid (IdsV w wr _ I) := Lib.hid ⟨own_base hO.out HB1.out.size, hI.out⟩
          rw [hia] at HO2 ⊢
          go_wp2_with fail
          go_ret2
          rw [hR.out]
          exact ⟨_, rfl, HO2.out, HB0.out⟩
  · have e : namesR most x = .error 91 := by unfold namesR listR; rw [if_pos hk]; rfl
    rw [e]
    have g : (x.kind != 3) = true := by rw [bne_iff_ne]; exact hk
    clear e hk
    go_enter Try.func57, Try.ntmps57
    go_upto_region 1 with fail
    rw [← HW1.out]
    obtain ⟨⟨p0, p1, p2, p3, p4⟩, _⟩ := five_cells HBK.out
    go_wp2_with fail
    go_ret2
    exact ⟨rfl, HB1.out⟩
end Go.Proofs.Ytdolonkeanlaoaa
