/- The walk of the law GrainMakes. -/
import Derived.Test.YtgppadnbfggkcaaAg
import Derived.Deep.Cut
namespace Go.Proofs.Ytgppadnbfggkcaa
open Go.RowKit

def madeV (n : Nat) (s : List UInt8) (f : Nat) : Val := .mk 3 0 [] 0 [.mk 0 n [] 0 [], .mk 1 0 s 0 [], .mk 2 0 [] (canonB f) []]
theorem made_fine (n : Nat) (s : List UInt8) (f : Nat) (hn : n < 18446744073709551616) (hs : s.length ≤ 1048576) (hf : f < 18446744073709551616) : FineV 16 (madeV n s f) := by
  refine ⟨by omega, by omega, by simp, by simp, fun x hx => ?_⟩
  simp at hx
  rcases hx with rfl | rfl | rfl
  · exact ⟨hn, by omega, by simp, by simp, fun y hy => by simp at hy⟩
  · exact ⟨by omega, by omega, hs, by simp, fun y hy => by simp at hy⟩
  · exact ⟨by omega, canonB_lt hf, by simp, by simp, fun y hy => by simp at hy⟩
theorem made_norm (n : Nat) (s : List UInt8) (f : Nat) : normV 16 (madeV n s f) = madeV n s f := by
  unfold madeV
  simp [normV, canon_canon]
theorem made_deep (n : Nat) (s : List UInt8) (f : Nat) : Deep 16 (madeV n s f) := by
  intro x hx
  simp at hx
  rcases hx with rfl | rfl | rfl <;> intro y hy <;> simp at hy
theorem made_enc (n : Nat) (s : List UInt8) (f : Nat) (hn : n < 18446744073709551616) (hs : s.length ≤ 1000000) : ∃ o, encR (madeV n s f) = .ok o := by
  have h0 := headB_len 0 n hn
  have h1 := headB_len 1 s.length (by omega)
  have h2 := headB_len 2 0 (by omega)
  have h3 := headB_len 3 3 (by omega)
  have hb := be8_len (canonB (canonB f))
  have hfl : (floatL (canonB f)).length ≤ 19 := by unfold floatL; rw [List.length_append]; omega
  unfold encR madeV
  rw [enc_list]
  simp only [foldE]
  rw [enc_num, cap_ok (by simp only [List.length_append, List.length_cons, List.length_nil]; have h3' : (headB 3 (0 + 1 + 1 + 1)).length ≤ 11 := h3; omega)]
  simp only
  rw [enc_bytes, if_neg (by omega), cap_ok (by simp only [List.length_append, List.length_cons, List.length_nil]; have h3' : (headB 3 (0 + 1 + 1 + 1)).length ≤ 11 := h3; omega)]
  simp only
  rw [enc_real, cap_ok (by simp only [List.length_append, List.length_cons, List.length_nil]; have h3' : (headB 3 (0 + 1 + 1 + 1)).length ≤ 11 := h3; omega)]
  simp only
  exact ⟨_, cap_ok (by simp only [List.length_append, List.length_cons, List.length_nil]; have h3' : (headB 3 (0 + 1 + 1 + 1)).length ≤ 11 := h3; omega)⟩
theorem dec_nil : decR [] = .error 20 := rfl
theorem nan_canon {f : Nat} (h : nanB f = true) : canonB f = 9221120237041090560 := by unfold canonB; rw [if_pos h]
theorem num_canon {f : Nat} (h : nanB f = false) : canonB f = f := by unfold canonB; rw [if_neg (by rw [h]; decide)]
/-- What is made, up to Encode's call: a row of the three, in a block of its own. -/
structure Made (w w5 : World) (n : Nat) (s : List UInt8) (f b : Nat) (ra : Option Addr) (rc : Nat) : Prop where
  below : Below w.heap.size w w5
  blk : w5.heap[b]? = some (.cells #[.int .i64 3, .int .u64 0, .slice none 0 0, .float .f64 0, .slice ra 3 rc] 27 (0, 0))
  lt : b < w5.heap.size
  reads : Reads w5.heap.size w5 16 (.agg #[.int .i64 3, .int .u64 0, .slice none 0 0, .float .f64 0, .slice ra 3 rc]) (madeV n s f)
theorem Made.step {w w5 w6 : World} {n : Nat} {s : List UInt8} {f b : Nat} {ra : Option Addr} {rc : Nat} (h : Made w w5 n s f b ra rc) (hb : Below w5.heap.size w5 w6) : Made w w6 n s f b ra rc :=
  ⟨h.below.trans (hb.mono h.below.size), (hb.block b h.lt).trans h.blk, Nat.lt_of_lt_of_le h.lt hb.size, h.reads.step hb⟩
theorem agg_five {a b c d e a' b' c' d' e' : Value} (h : Value.agg #[a, b, c, d, e] = .agg #[a', b', c', d', e']) : a = a' ∧ b = b' ∧ c = c' ∧ d = d' ∧ e = e' := by
  injection h with h
  have h2 : [a, b, c, d, e] = [a', b', c', d', e'] := by injection h
  injection h2 with h0 h2
  injection h2 with h1 h2
  injection h2 with h3 h2
  injection h2 with h4 h2
  injection h2 with h5 _
  exact ⟨h0, h1, h3, h4, h5⟩
set_option maxRecDepth 100000 in
set_option maxHeartbeats 4000000 in
theorem law_makes (n : Nat) (s : List UInt8) (f : Nat) (w : World) (hn : n < 18446744073709551616) (hsl : s.length ≤ 1048576) (hf : f < 18446744073709551616) :
    Calls Try.prog 7 #[.int .u64 n, .string ⟨s.toArray⟩, .float .f64 f] w (True' w) := by
  have hst := run_storeF
  have h19 := fb19
  have HN := Lib.hid hn
  have HFF := Lib.hid hf
  clear hn hf
  go_enter Try.func7, Try.ntmps7
  go_wp2_with fail
  refine (awake_any _).mono ?_
  rintro e w0 ⟨rfl, hb0⟩
  have hs0 := hb0.size
  have HB0 := Lib.hid hb0
  clear hb0
  go_wp2_with fail
  refine (num_any n _).mono ?_
  rintro e w1 ⟨rfl, hb1⟩
  have HB1 := Lib.hid (HB0.out.trans (hb1.mono hs0))
  have hs1 := hb1.size
  clear hb1
  go_wp2_with fail
  refine (text_any s _ hsl).mono ?_
  rintro e w2 ⟨tv, rfl, htv, hb2⟩
  have HT := Lib.hid htv
  have hs2 := hb2.size
  have HB2 := Lib.hid (HB1.out.trans (hb2.mono (by omega)))
  obtain ⟨ta, tc, rfl⟩ := htv.shape
  clear htv hb2
  go_wp2_with fail
  have HRA := Lib.hid (real_any f w2)
  have HMF := Lib.hid (made_fine n s f HN.out hsl HFF.out)
  have HMN := Lib.hid (made_norm n s f)
  have HMD := Lib.hid (made_deep n s f)
  have HME := Lib.hid (fun h => made_enc n s f HN.out h)
  have HMV : Hid (madeV n s f = .mk 3 0 [] 0 [.mk 0 n [] 0 [], .mk 1 0 s 0 [], .mk 2 0 [] (canonB f) []]) := Lib.hid rfl
  have HCL := Lib.hid (canonB_lt HFF.out)
  have HNC := Lib.hid (fun (h : nanB f = true) => nan_canon h)
  have HUC := Lib.hid (fun (h : nanB f = false) => num_canon h)
  have HMS : Hid (∀ (w w5 w6 : World) b ra rc, Made w w5 n s f b ra rc → Below w5.heap.size w5 w6 → Made w w6 n s f b ra rc) := Lib.hid (fun _ _ _ _ _ _ h hb => h.step hb)
  generalize hcf : canonB f = cf at *
  have HCF := Lib.hid hcf
  clear hcf
  refine HRA.out.mono ?_
  rintro e w3 ⟨rfl, hb3⟩
  have hs3 := hb3.size
  have HT3 := Lib.hid (HT.out.kept (S' := fun k => k < w3.heap.size) (fun k hk => ⟨by omega, hb3.block k hk.2⟩))
  have HB3 := Lib.hid (HB2.out.trans (hb3.mono (by omega)))
  clear hb3
  go_wp2_with fail
  have hL : ListS (fun k => k < (w3.alloc (.cells #[.int .i64 0, .int .u64 n, .slice none 0 0, .float .f64 0, .slice none 0 0, .int .i64 1, .int .u64 0, .slice ta s.length tc, .float .f64 0, .slice none 0 0, .int .i64 2, .int .u64 0, .slice none 0 0, .float .f64 cf, .slice none 0 0] 27)).heap.size) _
      (ReadsS (fun k => k < (w3.alloc (.cells #[.int .i64 0, .int .u64 n, .slice none 0 0, .float .f64 0, .slice none 0 0, .int .i64 1, .int .u64 0, .slice ta s.length tc, .float .f64 0, .slice none 0 0, .int .i64 2, .int .u64 0, .slice none 0 0, .float .f64 cf, .slice none 0 0] 27)).heap.size) _ 15)
      (.slice (some ⟨w3.heap.size, 0, none⟩) 3 3) [.mk 0 n [] 0 [], .mk 1 0 s 0 [], .mk 2 0 [] cf []] :=
    three_in (q1 := ⟨_, _, _, _, _⟩) (q2 := ⟨_, _, _, _, _⟩) (q3 := ⟨_, _, _, _, _⟩) (new_five w3 _ 27) (by simp)
      ⟨_, _, rfl, HN.out, by omega, by simp, by simp, Or.inl ⟨rfl, rfl⟩, Or.inl ⟨rfl, rfl⟩⟩
      ⟨_, _, rfl, by omega, by omega, hsl, by simp, HT3.out.kept (fun k hk => ⟨by simp; omega, Below.heap_alloc _ _ _ hk⟩), Or.inl ⟨rfl, rfl⟩⟩
      ⟨_, _, rfl, by omega, HCL.out, by simp, by simp, Or.inl ⟨rfl, rfl⟩, Or.inl ⟨rfl, rfl⟩⟩
  have hdeep : ∀ x ∈ [Val.mk 0 n [] 0 [], .mk 1 0 s 0 [], .mk 2 0 [] cf []], Deep 15 x := by
    intro x hx
    simp at hx
    rcases hx with rfl | rfl | rfl <;> intro y hy <;> simp at hy
  refine (row_any 15 _ _ _ _ (fun k hk => hk) (by simp) hdeep hL).mono ?_
  rintro e w4 ⟨rv, rfl, hrl, hb4⟩
  have hs4 := hb4.size
  simp at hs4
  have hread : Reads w4.heap.size w4 16 (.agg #[.int .i64 3, .int .u64 0, .slice none 0 0, .float .f64 0, rv]) (madeV n s f) := by
    rw [HMV.out]
    exact ReadsS.into (fun k hk => hk.2) 16 _ _ (⟨_, _, rfl, by omega, by omega, by simp, by simp, Or.inl ⟨rfl, rfl⟩, hrl⟩)
  obtain ⟨ra, rc, rfl⟩ := hrl.shape
  have hbl5 : Below w4.heap.size w4 (w4.alloc (.cells #[.int .i64 3, .int .u64 0, .slice none 0 0, .float .f64 0, .slice ra 3 rc] 27)) := (Below.refl _ _).alloc (Nat.le_refl _) _
  have HM5 : Hid (Made w (w4.alloc (.cells #[.int .i64 3, .int .u64 0, .slice none 0 0, .float .f64 0, .slice ra 3 rc] 27)) n s f w4.heap.size ra rc) := Lib.hid
    ⟨((HB3.out.alloc (by omega) _).trans (hb4.mono (by simp; omega))).alloc (by omega) _, new_five w4 _ 27, by simp, hread.step hbl5⟩
  clear hL hdeep hrl hb4 hread hbl5
  go_upto_region 4 with fail
  generalize w4.alloc (.cells #[.int .i64 3, .int .u64 0, .slice none 0 0, .float .f64 0, .slice ra 3 rc] 27) = w5 at *
  generalize w4.heap.size = bb at *
  obtain ⟨⟨c0, c1, c2, c3, c4⟩, _⟩ := five_cells HM5.out.blk
  have henc := encode_any _ _ w5 HM5.out.reads
  have HED := Lib.hid (fun q (h : encR (madeV n s f) = .ok q) => enc_dec HMF.out h)
  go_wp2_with fail
  clear c0 c1 c2 c3 c4
  have HNO : Hid (s.length ≤ 1000000 → ∀ c, encR (madeV n s f) = .error c → False) := Lib.hid (fun h c hc => by
    obtain ⟨o, ho⟩ := HME.out h
    rw [ho] at hc; cases hc)
  generalize hr : encR (madeV n s f) = r at *
  have HR := Lib.hid hr
  clear hr
  refine henc.mono ?_
  clear henc
  cases r with
  | error c =>
    rintro e w6 ⟨rfl, hb6⟩
    have HB6 := Lib.hid (HM5.out.below.trans (hb6.mono HM5.out.below.size))
    have hlong : 1000000 < s.length := by
      have := HNO.out
      by_cases h : s.length ≤ 1000000
      · exact (this h c rfl).elim
      · omega
    have hdec := decode_any (fun _ => False) (.slice none 0 0) [] w6 (fun k hk => hk.elim) (Or.inl ⟨rfl, rfl⟩)
    rw [dec_nil] at hdec
    have HDC := Lib.hid hdec
    clear hb6 hdec HED HNO HR
    go_wp2_with fail
    refine HDC.out.mono ?_
    rintro e w7 ⟨rfl, hb7⟩
    have HB7 := Lib.hid (HB6.out.trans (hb7.mono HB6.out.size))
    have hs7 := HB7.out.size
    clear hb7
    go_wp2_with fail
    go_ret
    exact ⟨rfl, HB7.out.alloc hs7 _⟩
  | ok o =>
    rintro e w6 ⟨v6, rfl, hown6, hb6⟩
    have HM6 := Lib.hid (HM5.out.step hb6)
    have hdec := decode_any _ _ o w6 (fun k hk => hk.2) (own_c hown6)
    obtain ⟨sa6, sc6, rfl⟩ := own_slice hown6
    rw [(HED.out o rfl).1, HMN.out] at hdec
    have HDC := Lib.hid hdec
    clear hb6 hown6 hdec HED HNO HR
    go_wp2_with fail
    refine HDC.out.mono ?_
    rintro e w7 ⟨v7, rfl, hx7, hb7⟩
    have HM7 := Lib.hid (HM6.out.step hb7)
    have hs7 := HM7.out.below.size
    have HDR : Hid (Reads w7.heap.size w7 16 v7 (madeV n s f)) := Lib.hid (ReadsS.into (fun k hk => hk.2) 16 _ _ hx7)
    rw [HMV.out] at hx7
    obtain ⟨db, dl, rfl, _, _, _, _, hdb, hdl⟩ := hx7
    obtain ⟨dba, dbc, rfl⟩ := hdb.shape
    rcases hdl with ⟨_, h0⟩ | ⟨g, o2, cap, rfl, hlc, hcm, hSg, hcells⟩
    · simp at h0
    have hgl : g < w7.heap.size := hSg.2
    obtain ⟨x0v, x1v, x2v, x3v, x4v, x0, x1, x2, x3, x4, hel0⟩ := hcells 0 _ rfl
    obtain ⟨z0v, z1v, z2v, z3v, z4v, z0, z1, z2, z3, z4, hel1⟩ := hcells 1 _ rfl
    obtain ⟨q0v, q1v, q2v, q3v, q4v, q0, q1, q2, q3, q4, hel2⟩ := hcells 2 _ rfl
    obtain ⟨eb0, el0, hagg0, _⟩ := hel0
    obtain ⟨eb1, el1, hagg1, _, _, _, _, hsb, _⟩ := hel1
    obtain ⟨eb2, el2, hagg2, _⟩ := hel2
    obtain ⟨e00, e01, _, _, _⟩ := agg_five hagg0
    obtain ⟨e10, _, e12, _, _⟩ := agg_five hagg1
    obtain ⟨e20, _, _, e23, _⟩ := agg_five hagg2
    subst e00 e01 e10 e12 e20 e23
    have HSB := Lib.hid (hsb.into (B := w7.heap.size) (fun k hk => hk.2))
    obtain ⟨sba, sbc, rfl⟩ := hsb.shape
    rw [Nat.zero_mul, Nat.add_zero] at x0 x1
    clear hdb hcells hagg0 hagg1 hagg2 hsb x2 x3 x4 z1 z3 z4 q1 q2 q4 hb7
    by_cases hlong : 1000000 < s.length
    · have hlt : decide ((1000000 : Int) < (s.length : Int)) = true := by simp; omega
      have HB7 := Lib.hid HM7.out.below
      clear x0 x1 z0 z2 q0 q3
      go_wp2_with fail
      go_ret
      exact ⟨rfl, HB7.out.alloc hs7 _⟩
    · have hle : s.length ≤ 1000000 := by omega
      clear hlong
      have hlt : decide ((1000000 : Int) < (s.length : Int)) = false := by simp; omega
      have hlt2 : decide (1000000 < s.length) = false := by simp; omega
      go_upto_region 8 with fail
      have hs7b : (w7.alloc (.cells #[.int .i64 3, .int .u64 0, .slice dba 0 dbc, .float .f64 0, .slice (some ⟨g, o2, none⟩) 3 cap] 27)).heap.size = w7.heap.size + 1 := by simp
      have hblk8 := new_five w7 #[.int .i64 3, .int .u64 0, .slice dba 0 dbc, .float .f64 0, .slice (some ⟨g, o2, none⟩) 3 cap] 27
      have hbl8 : Below w7.heap.size w7 (w7.alloc (.cells #[.int .i64 3, .int .u64 0, .slice dba 0 dbc, .float .f64 0, .slice (some ⟨g, o2, none⟩) 3 cap] 27)) := (Below.refl _ _).alloc (Nat.le_refl _) _
      generalize w7.alloc (.cells #[.int .i64 3, .int .u64 0, .slice dba 0 dbc, .float .f64 0, .slice (some ⟨g, o2, none⟩) 3 cap] 27) = w8 at *
      have hm8 := HM7.out.step hbl8
      have hsame := same_ok 16 _ _ _ _ w8 (Nat.le_refl _) HMD.out hm8.reads (HDR.out.step hbl8)
      have HSM := Lib.hid hsame
      have hc7 := five_cells hm8.blk
      have hc8 := five_cells hblk8
      obtain ⟨⟨c0, c1, c2, c3, c4⟩, _⟩ := hc7
      obtain ⟨⟨d0, d1, d2, d3, d4⟩, _⟩ := hc8
      have HB8 := Lib.hid hm8.below
      have HBL8 := Lib.hid hbl8
      have H8 := Lib.hid hblk8
      clear hm8 hsame hbl8 hblk8
      go_wp2_with fail
      refine HSM.out.mono ?_
      rintro e w9 ⟨rfl, hb9⟩
      have hs9 := hb9.size
      obtain ⟨⟨c0', c1', c2', c3', c4'⟩, _⟩ := five_cells ((hb9.block w7.heap.size (by omega)).trans H8.out)
      have HB9 := Lib.hid (HB8.out.trans (hb9.mono HB8.out.size))
      have hgb : ∀ i, w9.cell? ⟨g, i, none⟩ = w7.cell? ⟨g, i, none⟩ := fun i => by
        rw [hb9.cell (p := ⟨g, i, none⟩) (show g < _ by omega)]
        exact World.cell?_of_block (w := w7) (HBL8.out.block g hgl)
      have k0 := (hgb _).trans x0
      have k1 := (hgb _).trans x1
      have y0 := (hgb _).trans z0
      have y2 := (hgb _).trans z2
      have l0 := (hgb _).trans q0
      have l3 := (hgb _).trans q3
      have hcv := bytes_string ((HSB.out.below HBL8.out).below (hb9.mono (by omega)))
      clear hgb x0 x1 z0 z2 q0 q3 hb9 c0 c1 c2 c3 c4 d0 d1 d2 d3 d4
      cases hnan : nanB f with
      | false =>
        have hcf := HUC.out hnan
        clear HNC HUC HCL HMV HMF HMN HMD HME HMS HM7 HDR HSM HCF HRA
        subst hcf
        go_wp2_with fail
        go_ret
        exact ⟨rfl, HB9.out⟩
      | true =>
        have hcf := HNC.out hnan
        have hor : (FloatKind.f64.format.order f f != some .eq) = true := hnan
        clear HNC HUC HCL HMV HMF HMN HMD HME HMS HM7 HDR HSM HCF HRA
        subst hcf
        by_cases hff : f = 9221120237041090560
        · have hq : ((9221120237041090560 : Int) == (f : Int)) = true := by rw [beq_iff_eq, hff]; rfl
          clear hff
          go_wp2_with fail
          go_ret
          exact ⟨rfl, HB9.out⟩
        · have hq : ((9221120237041090560 : Int) == (f : Int)) = false := by rw [beq_eq_false_iff_ne]; omega
          clear hff
          go_wp2_with fail
          go_ret
          exact ⟨rfl, HB9.out⟩
end Go.Proofs.Ytgppadnbfggkcaa
