/- The walk of the reference's Sum. -/
import Derived.Test.YtdolonkeanlaoaaDoorShaGc
import Derived.Laws.Bits64
namespace Go.Proofs.YtdolonkeanlaoaaDoor
open Go.RowKit

attribute [local simp high] id_size id_zero
def sliceLen : Value → Nat
  | .slice _ n _ => n
  | _ => 0
theorem RowM.shapeG {w : World} {B : Nat} {v : Value} {xs : List Value} (h : RowM w B v xs) : ∃ a c, v = .slice a xs.length c := by
  rcases h with ⟨rfl, rfl⟩ | ⟨g, cap, rfl, _⟩
  · exact ⟨none, 0, rfl⟩
  · exact ⟨_, cap, rfl⟩
theorem RowM.ge {w : World} {B : Nat} {v : Value} {xs : List Value} (h : RowM w B v xs) : ∀ k, v.ownBlock = some k → B ≤ k ∧ k < w.heap.size := by
  intro k hk
  rcases h with ⟨_, rfl⟩ | ⟨g, cap, rfl, hbg, hgs, _⟩
  · exact absurd hk (by simp [Value.ownBlock])
  · have : k = g := by simpa [Value.ownBlock] using hk.symm
    subst this
    exact ⟨hbg, hgs⟩
/-- What appending onto a row behind B does to what lies below B. -/
theorem Grew.underM {w w' : World} {B : Nat} {v v' : Value} {xs : List Value} (h : Grew w w' v v') (hr : RowM w B v xs) (hB : B ≤ w.heap.size) : Below B w w' :=
  ⟨h.gb.os, h.gb.tape, h.gb.output, h.gb.size, fun k hk => h.gb.block k (by omega) (fun e => by have := (hr.ge k e.symm).1; omega)⟩
def fill0 (s : List UInt8) (k : Nat) : List UInt8 := s ++ [128] ++ List.replicate k 0
theorem fill0_len (s : List UInt8) (k : Nat) : (fill0 s k).length = s.length + 1 + k := by unfold fill0; simp; omega
theorem fill0_snoc (s : List UInt8) (k : Nat) : bv (fill0 s k) ++ [.int .u8 0] = bv (fill0 s (k + 1)) := by
  unfold fill0
  rw [List.replicate_succ', ← List.append_assoc, bv_append _ [0]]
  rfl
def place (i : Nat) : Nat := 72057594037927936 / 256 ^ i
theorem place_step (i : Nat) : place i / 256 = place (i + 1) := by unfold place; rw [Nat.div_div_eq_div_mul, Nat.pow_succ]
theorem places_snoc (n i : Nat) (hi : i < 8) : (placesN n).take (i + 1) = (placesN n).take i ++ [UInt8.ofNat (n / place i % 256)] := by
  have h : i = 0 ∨ i = 1 ∨ i = 2 ∨ i = 3 ∨ i = 4 ∨ i = 5 ∨ i = 6 ∨ i = 7 := by omega
  rcases h with rfl | rfl | rfl | rfl | rfl | rfl | rfl | rfl <;> simp [placesN, place]
theorem place_pos (i : Nat) (hi : i < 8) : 1 ≤ place i ∧ place i ≤ 72057594037927936 := by
  have h : i = 0 ∨ i = 1 ∨ i = 2 ∨ i = 3 ∨ i = 4 ∨ i = 5 ∨ i = 6 ∨ i = 7 := by omega
  rcases h with rfl | rfl | rfl | rfl | rfl | rfl | rfl | rfl <;> (unfold place; decide)
set_option maxRecDepth 100000 in
set_option maxHeartbeats 16000000 in
theorem rsum_any (s : List UInt8) (w : World) (hs : s.length ≤ 1000000) : Calls Tryd.prog 10 #[.string ⟨s.toArray⟩] w fun e w' => e = .returned (.agg (bv (sumN s)).toArray) ∧ Below w.heap.size w w' := by
  obtain ⟨i0, hi, hz0, hz1, hz2⟩ := info_parts Tryd.info5
  have i1 := IDAt.new w
  have hb1 := (Below.refl w.heap.size w).alloc (Nat.le_refl _) (.cells (bv zeros).toArray 33)
  have hs1 : (w.alloc (.cells (bv zeros).toArray 33)).heap.size = w.heap.size + 1 := by simp
  obtain ⟨cap, w2, hcv, hrm, hb2, hs2⟩ := conv_mark (w.alloc (.cells (bv zeros).toArray 33)) s (by omega)
  rw [hs1] at hcv hrm hb2 hs2
  have I2 := Lib.hid (i1.kept (w' := w2) (hb2.block _ (by omega)))
  have HB2 := Lib.hid (hb1.trans (hb2.mono (by omega)))
  have HRM := Lib.hid hrm
  have HS2 := Lib.hid hs2
  have HSL := Lib.hid hs
  clear i1 hb1 hrm hb2 hs2
  go_enter Tryd.func10, Tryd.ntmps10
  go_wp2_with (at_builtin; refine wpList_mark _ rfl _ _ 22 22 rfl (w.heap.size + 1) 5 i0 (.int .u8 0) 1 Tryd.underlying22 hi hz0 hz1 hz2 rfl _ (bv s) rfl (HRM.out.alloc _) _ 1 [.int .u8 128] rfl (src_one _ _) (by decide) ?c1 ?c2 ?c3 ?_)
  case c1 => rw [bv_len]; unfold maxLen; omega
  case c2 => rw [bv_len]; omega
  case c3 => rw [World.size_alloc, HS2.out]; omega
  intro v3 w3 hrm3 hg3
  have hu3 := hg3.underM (HRM.out.alloc _) (by rw [World.size_alloc, HS2.out]; omega)
  have HR3 : Hid (RowM w3 (w.heap.size + 1) v3 (bv (fill0 s 0))) := Lib.hid (by unfold fill0; rw [List.replicate_zero, List.append_nil, bv_append]; exact hrm3)
  have HU3 : Hid (Below (w.heap.size + 1) w2 w3) := Lib.hid (((Below.refl _ w2).alloc (by rw [HS2.out]; omega) _).trans hu3)
  clear hrm3 hg3 hu3 hcv
  go_wp2_with fail
  go_loopw [4] (fun v wr => ∃ k : Nat, k ≤ fillN s.length ∧ RowM wr (w.heap.size + 1) v (bv (fill0 s k)) ∧ Below (w.heap.size + 1) w2 wr) (fun v _ => s.length + 100 - sliceLen v)
  case atStart => exact ⟨0, Nat.zero_le _, HR3.out, HU3.out⟩
  case round =>
    obtain ⟨k, hk, hrm, hbw⟩ := hrel
    obtain ⟨av, cv, rfl⟩ := hrm.shapeG
    rw [bv_len, fill0_len] at *
    have HR := Lib.hid hrm
    have HB := Lib.hid hbw
    clear hrm hbw
    have hkf : k ≤ 63 := by unfold fillN at hk; omega
    by_cases hlt : k < fillN s.length
    · have hne : ((((s.length + 1 + k : Nat) : Int) % 64) != 56) = true := by
        rw [bne_iff_ne]
        unfold fillN at hlt
        omega
      have hL : s.length + 1 + k ≤ 1000064 := by omega
      have HLK : Hid (∃ L, L = s.length + 1 + k) := Lib.hid ⟨_, rfl⟩
      obtain ⟨L, hLL⟩ := HLK.out
      rw [← hLL] at hne hL HR
      have HLL := Lib.hid hLL
      rw [← hLL]
      clear HLK hLL
      have HKF := Lib.hid hlt
      clear hlt hk hkf hs
      go_wp2_with (at_builtin; refine wpList_mark _ rfl _ _ 22 22 rfl (w.heap.size + 1) 5 i0 (.int .u8 0) 1 Tryd.underlying22 hi hz0 hz1 hz2 rfl _ (bv (fill0 s k)) rfl (HR.out.alloc _) _ 1 [.int .u8 0] rfl (src_one _ _) (by decide) ?c1 ?c2 ?c3 ?_)
      case c1 => rw [bv_len, fill0_len, ← HLL.out]; unfold maxLen; omega
      case c2 => rw [bv_len, fill0_len, ← HLL.out]; omega
      case c3 => rw [World.size_alloc]; have := HB.out.size; rw [HS2.out] at this; omega
      intro v4 w4 hrm4 hg4
      have hu4 := hg4.underM (HR.out.alloc _) (by rw [World.size_alloc]; have := HB.out.size; rw [HS2.out] at this; omega)
      rw [fill0_snoc] at hrm4
      have HR4 := Lib.hid hrm4
      have HB4 : Hid (Below (w.heap.size + 1) w2 w4) := Lib.hid ((HB.out.alloc (by have := HB.out.size; rw [HS2.out] at this; omega) _).trans (hu4.mono (Nat.le_refl _)))
      clear hrm4 hg4 hu4
      obtain ⟨a4, c4, hv4⟩ := HR4.out.shapeG
      go_wp2_with fail
      refine ⟨⟨k + 1, HKF.out, HR4.out, HB4.out⟩, ?_⟩
      rw [hv4, bv_len, fill0_len]
      have h1 := HLL.out
      have h2 := HKF.out
      unfold fillN at h2
      simp only [sliceLen]
      omega
    · have hkn : k = fillN s.length := by omega
      have hne : ((((s.length + 1 + k : Nat) : Int) % 64) != 56) = false := by
        rw [bne_eq_false_iff_eq, hkn]
        unfold fillN
        omega
      have hL : s.length + 1 + k ≤ 1000064 := by omega
      subst hkn
      have HLK : Hid (∃ L, L = s.length + 1 + fillN s.length) := Lib.hid ⟨_, rfl⟩
      obtain ⟨L, hLL⟩ := HLK.out
      rw [← hLL] at hne hL HR
      have HLL := Lib.hid hLL
      rw [← hLL]
      clear HLK hLL hk hkf hs hlt
      go_wp2_with fail
      go_loopw [4, 5, 6] (fun v p i wq => ∃ q : Nat, q ≤ 8 ∧ i = .int .i64 q ∧ p = .int .u64 (place q : Nat) ∧ RowM wq (w.heap.size + 1) v (bv (fill0 s (fillN s.length) ++ (placesN (s.length * 8)).take q)) ∧ Below (w.heap.size + 1) w2 wq) (fun _ _ i _ => 8 - (intOf i).toNat)
      case atStart => exact ⟨0, Nat.zero_le _, rfl, rfl, by rw [List.take_zero, List.append_nil]; exact HR.out, HB.out⟩
      case round =>
        obtain ⟨q, hq, rfl, rfl, hrq, hbq⟩ := hrel
        obtain ⟨aq, cq, rfl⟩ := hrq.shapeG
        have HRQ := Lib.hid hrq
        have HBQ := Lib.hid hbq
        clear hrq hbq
        by_cases hq8 : q < 8
        · obtain ⟨hp1, hp2⟩ := place_pos q hq8
          have HPS := Lib.hid (place_step q)
          have HPN := Lib.hid (places_snoc (s.length * 8) q hq8)
          have hlen : (bv (fill0 s (fillN s.length) ++ (placesN (s.length * 8)).take q)).length = L + q := by
            rw [bv_len, List.length_append, fill0_len, ← HLL.out, List.length_take]
            unfold placesN
            simp only [List.length_cons, List.length_nil]
            omega
          have HLEN := Lib.hid hlen
          clear hlen
          have hss := HSL.out
          generalize place q = p at *
          have hp0 : ((p : Int) == 0) = false := by rw [beq_eq_false_iff_ne]; omega
          have e : (s.length : Int) * 8 / (p : Int) = ((s.length * 8 / p : Nat) : Int) := by rw [Int.natCast_ediv]; rfl
          have hdl := Nat.div_le_self (s.length * 8) p
          have HX : Hid (bv (fill0 s (fillN s.length) ++ (placesN (s.length * 8)).take q) ++ [.int .u8 ((s.length * 8 / p % 256 : Nat) : Int)] = bv (fill0 s (fillN s.length) ++ (placesN (s.length * 8)).take (q + 1))) := Lib.hid (by
            rw [HPN.out, ← List.append_assoc, bv_append _ [UInt8.ofNat _]]
            congr 1
            unfold bv
            rw [List.map_cons, List.map_nil, u8_of _ (Nat.mod_lt _ (by decide))])
          clear HPN
          generalize bv (fill0 s (fillN s.length) ++ (placesN (s.length * 8)).take q) = xs at *
          generalize s.length * 8 / p = d at *
          have HV8 : Hid (((s.length : Int) * 8 / (p : Int)).tmod 256 % 256 = ((d % 256 : Nat) : Int)) := Lib.hid (by rw [e, Int.tmod_eq_emod_of_nonneg (by omega)]; omega)
          clear e
          go_wp2_with (at_builtin; refine wpList_mark _ rfl _ _ 22 22 rfl (w.heap.size + 1) 5 i0 (.int .u8 0) 1 Tryd.underlying22 hi hz0 hz1 hz2 rfl _ xs rfl (HRQ.out.alloc _) _ 1 [.int .u8 (((s.length : Int) * 8 / (p : Int)).tmod 256 % 256)] rfl (src_one _ _) (by decide) ?c1 ?c2 ?c3 ?_)
          case c1 => rw [HLEN.out]; unfold maxLen; omega
          case c2 => rw [HLEN.out]; omega
          case c3 => rw [World.size_alloc]; have := HBQ.out.size; rw [HS2.out] at this; omega
          intro v4 w4 hrm4 hg4
          have hra := HRQ.out.alloc (.cells #[.int .u8 (((s.length : Int) * 8 / (p : Int)).tmod 256 % 256)] 5)
          have hu4 := Grew.underM (B := w.heap.size + 1) hg4 hra (by rw [World.size_alloc]; have := HBQ.out.size; rw [HS2.out] at this; omega)
          rw [HV8.out, HX.out] at hrm4
          have HR4 := Lib.hid hrm4
          have HB4 : Hid (Below (w.heap.size + 1) w2 w4) := Lib.hid ((HBQ.out.alloc (by have := HBQ.out.size; rw [HS2.out] at this; omega) _).trans (hu4.mono (Nat.le_refl _)))
          clear hrm4 hg4 hu4 hra
          go_wp2_with fail
          go_roundw
          case rel => exact ⟨q + 1, by omega, by go_num, congrArg (Value.int .u64) (by rw [← HPS.out]; omega), HR4.out, HB4.out⟩
          case measure => simp [intOf]; omega
        · have hqn : q = 8 := by omega
          subst hqn
          have HPAD : Hid (bv (fill0 s (fillN s.length) ++ (placesN (s.length * 8)).take 8) = bv (padL s)) := Lib.hid (by unfold padL fill0; rfl)
          rw [HPAD.out] at HRQ ⊢
          have hss := HSL.out
          have hpl := padL_len s
          have hpl2 : (padL s).length ≤ 1000100 := by have := hpl.2; unfold fillN at this; omega
          have HPL := Lib.hid hpl
          clear hpl
          rw [bv_len] at *
          go_wp2_with fail
          refine (rparts_any wr).mono ?_
          rintro e w4 ⟨rfl, rfl⟩
          go_wp2_with fail
          refine (rstart_any _).mono ?_
          rintro e w5 ⟨rfl, rfl⟩
          have p1 : WordsAt (wr.alloc (.cells (uv partsL).toArray 50)) wr.heap.size partsL := ⟨new_five wr _ _⟩
          have p2 : WordsAt ((wr.alloc (.cells (uv partsL).toArray 50)).alloc (.cells (uv startL).toArray 50)) (wr.heap.size + 1) startL := ⟨by have := new_five (wr.alloc (.cells (uv partsL).toArray 50)) (uv startL).toArray 50; rwa [show (wr.alloc (.cells (uv partsL).toArray 50)).heap.size = wr.heap.size + 1 by simp] at this⟩
          have hA : Amb w (fun k => w.heap.size + 1 ≤ k ∧ k < wr.heap.size) wr.heap.size (wr.heap.size + 1) (.slice aq (padL s).length cq) (padL s) startL (wr.heap.size + 2) ((wr.alloc (.cells (uv partsL).toArray 50)).alloc (.cells (uv startL).toArray 50)) := by
            have hsz := HBQ.out.size
            have h2 := HS2.out
            have ha := Below.heap_alloc wr (.cells (uv partsL).toArray 50)
            have hb := Below.heap_alloc (wr.alloc (.cells (uv partsL).toArray 50)) (.cells (uv startL).toArray 50)
            have hs1 : (wr.alloc (.cells (uv partsL).toArray 50)).heap.size = wr.heap.size + 1 := by simp
            refine ⟨p1.kept (hb _ (by omega)), p2, HRQ.out.bytes.kept (fun k hk => ⟨hk, (hb k (by omega)).trans (ha k hk.2)⟩), ((I2.out.kept (HBQ.out.block _ (by omega))).kept (ha _ (by omega))).kept (hb _ (by omega)), ?_, by simp, by omega, by omega, by omega, fun k hk => by omega⟩
            exact ((HB2.out.trans (HBQ.out.mono (by omega))).alloc (by omega) _).alloc (by omega) _
          obtain ⟨pad, hpad⟩ : ∃ pad, pad = padL s := ⟨_, rfl⟩
          have HSUM : Hid (sumN s = (List.range 32).map (outB (blocksN pad (pad.length / 64)).list)) := Lib.hid (by rw [hpad]; rfl)
          have hpl1 := HPL.out.1
          rw [← hpad] at hA hpl1 hpl2 ⊢
          obtain ⟨kb, hkb⟩ : ∃ kb, kb = wr.heap.size := ⟨_, rfl⟩
          obtain ⟨hb, hhb⟩ : ∃ hb, hb = wr.heap.size + 1 := ⟨_, rfl⟩
          have hkh : kb < hb := by omega
          rw [← hhb, ← hkb] at hA
          rw [show (Value.slice (some ⟨(wr.alloc (.cells (uv partsL).toArray 50)).heap.size, 0, none⟩) 8 8 : Value) = .slice (some ⟨hb, 0, none⟩) 8 8 by rw [hhb]; simp, show (Value.slice (some ⟨wr.heap.size, 0, none⟩) 64 64 : Value) = .slice (some ⟨kb, 0, none⟩) 64 64 by rw [hkb]]
          have HA := Lib.hid hA
          obtain ⟨ba, hba⟩ : ∃ ba, aq = some ba := by
            rcases hA.b with ⟨_, h0⟩ | ⟨ba, _, h1, _⟩
            · rw [h0] at hpad
              have := padL_len s
              rw [← hpad] at this
              simp at this; omega
            · injection h1 with h1 _ _; exact ⟨ba, h1⟩
          subst hba
          generalize (wr.alloc (.cells (uv partsL).toArray 50)).alloc (.cells (uv startL).toArray 50) = w6 at *
          obtain ⟨T, hT⟩ : ∃ T : Nat → Prop, T = fun k => w.heap.size + 1 ≤ k ∧ k < kb := ⟨_, rfl⟩
          have HTK : Hid (∀ q, T q → q < kb) := Lib.hid (fun q hq => by rw [hT] at hq; exact hq.2)
          have HTW : Hid (w.heap.size < hb) := Lib.hid (by have := HBQ.out.size; have := HS2.out; omega)
          rw [← hT] at HA
          clear hA p1 p2 hpad hkb hhb hT HRQ HBQ HPL HPAD I2 HB2 HRM HR3 HU3 HR HB HLL HS2
          go_wp2_with fail
          go_loopw [10] (fun i wq => ∃ n : Nat, i = .int .i64 ((64 * n : Nat) : Int) ∧ 64 * n ≤ pad.length ∧ Hid (∃ top, Amb w T kb hb (.slice (some ba) pad.length cq) pad (blocksN pad n).list top wq)) (fun i _ => pad.length - (intOf i).toNat)
          case atStart => exact ⟨0, rfl, Nat.zero_le _, Lib.hid ⟨_, HA.out⟩⟩
          case round =>
            obtain ⟨n, rfl, hn, hamb⟩ := hrel
            obtain ⟨top, hA0⟩ := hamb.out
            have hA := hA0.lift hA0.sz (Nat.le_refl _)
            clear hA0 hamb
            by_cases hlt : 64 * n < pad.length
            · have hlt2 : 64 * n + 64 ≤ pad.length := by omega
              have hmk := make64 wr
              have hdn : decide (64 * (n : Int) < (pad.length : Int)) = true := decide_eq_true (by omega)
              have W1 : WordsAt (wr.alloc (.cells (uv nil64).toArray 50)) wr.heap.size nil64 := ⟨new_five wr _ _⟩
              have A1 := hA.on ((Below.refl wr.heap.size wr).alloc (Nat.le_refl _) (.cells (uv nil64).toArray 50))
              have HW1 := Lib.hid W1
              have HA1 := Lib.hid A1
              have hs7 : (wr.alloc (.cells (uv nil64).toArray 50)).heap.size = wr.heap.size + 1 := by simp
              have HBL : Hid (∃ V, V = blocksN pad n) := Lib.hid ⟨_, rfl⟩
              clear hA W1 A1 HA
              go_upto_region 17 with fail
              clear hmk hdn
              generalize wr.alloc (.cells (uv nil64).toArray 50) = w7 at *
              obtain ⟨wb, hwb⟩ : ∃ wb, wb = wr.heap.size := ⟨_, rfl⟩
              rw [← hwb] at HW1 HA1 hs7 ⊢
              clear hwb
              go_wp2_with fail
              obtain ⟨o, ho⟩ : ∃ o, o = 64 * n := ⟨_, rfl⟩
              obtain ⟨V, hV⟩ : ∃ V, V = blocksN pad n := ⟨_, rfl⟩
              have HVN : Hid (∀ x, x = blockN pad o V → x = blocksN pad (n + 1)) := Lib.hid (fun x hx => by rw [hx, ho, hV]; rfl)
              have HVL : Hid (∀ x ∈ V.list, x < two32) := Lib.hid (by rw [hV]; exact blocksN_lt pad n)
              have HON : Hid (o = 64 * n) := Lib.hid ho
              rw [← ho] at hlt hlt2 ⊢
              rw [← hV] at HA1
              clear ho hV hn HBL
              have hpl3 : pad.length ≤ 1000100 := hpl2
              go_loopw [12] (fun i wq => ∃ k : Nat, k ≤ 64 ∧ i = .int .i64 k ∧ Hid (WordsAt wq wb (schedAt pad o k 0)) ∧ Hid (Amb w T kb hb (.slice (some ba) pad.length cq) pad V.list wb wq) ∧ Hid (wb < wq.heap.size)) (fun i _ => 64 - (intOf i).toNat)
              case atStart => exact ⟨0, by omega, rfl, Lib.hid (by rw [schedAt_start]; exact HW1.out), HA1, Lib.hid (by omega)⟩
              case round =>
                obtain ⟨k, hk, rfl, W2, A2, hz2⟩ := hrel
                clear HW1 HA1 hs7
                by_cases hk64 : k < 64
                · by_cases h16 : k < 16
                  · refine sched0 w T kb hb wb ba cq pad V.list o k wr _ _ _ _ _ _ _ _ _ _ _ _ _ _ _ _ _ _ _ _ _ _ _ _ _ _ _ _ _ _ _ _ _ _ _ _ _ _ _ _ _ _ _ _ _ _ _ _ _ _ _ _ _ _ _ _ _ _ _ _ _ _ _ _ _ _ _ _ _ _ _ _ _ _ _ _ _ _ _ _ _ _ _ _ _ _ _ _ _ _ _ _ _ _ _ _ _ _ _ _ _ _ _ _ _ _ _ _ _ _ _ _ _ _ _ _ _ _ _ _ _ _ _ _ _ _ _ _ _ _ _ _ _ _ _ _ _ _ _ _ _ _ _ _ _ _ _ _ _ _ _ _ _ _ _ _ _ _ _ _ _ _ _ _ _ _ _ _ _ _ _ _ _ _ _ _ _ _ _ _ _ _ _ _ _ _ _ _ _ _ _ _ _ _ _ _ _ _ _ _ _ _ _ _ _ _ _ _ _ _ _ _ _ _ _ _ _ _ _ _ _ _ _ _ _ _ _ _ _ _ _ _ _ _ _ _ _ _ _ _ _ _ _ _ _ _ _ _ _ _ _ _ _ _ _ _ _ _ _ _ _ _ _ _ _ _ _ _ _ _ _ _ _ _ _ _ _ _ _ _ _ _ _ _ _ _ _ _ _ _ _ _ _ _ _ hk64 h16 hlt2 hpl3 W2 A2 hz2 ?_
                    intro w' x0 x1 x2 x3 x4 x5 x6 x7 x8 x9 x10 x11 x12 x13 x14 x15 x16 x17 x18 x19 x20 x21 x22 x23 x24 x25 x26 x27 x28 x29 x30 x31 x32 x33 x34 x35 x36 x37 x38 x39 x40 x41 x42 x43 x44 x45 x46 x47 x48 x49 x50 x51 x52 x53 x54 x55 x56 x57 x58 x59 x60 x61 x62 x63 x64 x65 x66 x67 x68 x69 x70 x71 x72 x73 x74 x75 hw1 ha1 hs1'
                    go_wp2_with fail
                    go_roundw
                    case rel => exact ⟨k + 1, by omega, by go_num, Lib.hid hw1, Lib.hid ha1, Lib.hid hs1'⟩
                    case measure => simp [intOf]; omega
                  · refine sched16 w T kb hb wb (.slice (some ba) pad.length cq) pad V.list o k wr _ _ _ _ _ _ _ _ _ _ _ _ _ _ _ _ _ _ _ _ _ _ _ _ _ _ _ _ _ _ _ _ _ _ _ _ _ _ _ _ _ _ _ _ _ _ _ _ _ _ _ _ _ _ _ _ _ _ _ _ _ _ _ _ _ _ _ _ _ _ _ _ _ _ _ _ _ _ _ _ _ _ _ _ _ _ _ _ _ _ _ _ _ _ _ _ _ _ _ _ _ _ _ _ _ _ _ _ _ _ _ _ _ _ _ _ _ _ _ _ _ _ _ _ _ _ _ _ _ _ _ _ _ _ _ _ _ _ _ _ _ _ _ _ _ _ _ _ _ _ _ _ _ _ _ _ _ _ _ _ _ _ _ _ _ _ _ _ _ _ _ _ _ _ _ _ _ _ _ _ _ _ _ _ _ _ _ _ _ _ _ _ _ _ _ _ _ _ _ _ _ _ _ _ _ _ _ _ _ _ _ _ _ _ _ _ _ _ _ _ _ _ _ _ _ _ _ _ _ _ _ _ _ _ _ _ _ _ _ _ _ _ _ _ _ _ _ _ _ _ _ _ _ _ _ _ _ _ _ _ _ _ _ _ _ _ _ _ _ _ _ _ _ _ _ _ _ _ _ _ _ _ _ _ _ _ _ _ _ _ _ _ _ _ _ _ _ hk64 h16 W2 A2 hz2 (fun _ _ d' _ _ h => by cases d' <;> exact h) ?_
                    intro w' x0 x1 x2 x3 x4 x5 x6 x7 x8 x9 x10 x11 x12 x13 x14 x15 x16 x17 x18 x19 x20 x21 x22 x23 x24 x25 x26 x27 x28 x29 x30 x31 x32 x33 x34 x35 x36 x37 x38 x39 x40 x41 x42 x43 x44 x45 x46 x47 x48 x49 x50 x51 x52 x53 x54 x55 x56 x57 x58 x59 x60 x61 x62 x63 x64 x65 x66 x67 x68 x69 x70 x71 x72 x73 x74 x75 hw1 ha1 hs1'
                    go_wp2_with fail
                    go_roundw
                    case rel => exact ⟨k + 1, by omega, by go_num, Lib.hid hw1, Lib.hid ha1, Lib.hid hs1'⟩
                    case measure => simp [intOf]; omega
                · have hk64' : k = 64 := by omega
                  have hW8 : WordsAt wr wb (schedL pad o 64) := by rw [← schedAt_all, ← hk64']; exact W2.out
                  have W8 := Lib.hid hW8
                  have A8 := Lib.hid (A2.out.lift (Nat.le_of_lt hz2.out) (Nat.le_refl _))
                  have hwbl : wb < wr.heap.size := hz2.out
                  have hdk1 : decide ((k : Int) < 64) = false := decide_eq_false (by omega)
                  obtain ⟨j0, hj, hj0, hj1, hj2⟩ := info_parts Tryd.info50
                  have E8 := Lib.hid (own64_empty wr)
                  have S8 := Lib.hid (src64 (A8.out.h.kept (w' := wr.alloc (.cells #[] 50)) (Below.heap_alloc wr _ hb A8.out.lt.2.1)) (show V.list.length = 8 from rfl))
                  have HSL := Lib.hid (schedL_len pad o 64)
                  have HSLT := Lib.hid (schedL_lt pad o 64)
                  have HBN : Hid (blockN pad o V = addE V (roundsN (schedL pad o 64) V 64)) := Lib.hid rfl
                  generalize schedL pad o 64 = ws at *
                  have HM1 : Hid (0 + 8 ≤ maxLen) := Lib.hid (by unfold maxLen; omega)
                  have HM3 : Hid (wr.heap.size ≤ (wr.alloc (.cells #[] 50)).heap.size) := Lib.hid (by simp)
                  clear hW8 W2 A2 hz2 hk hk64 hk64'
                  go_wp2_with (at_builtin; refine wpList_own_src _ rfl _ _ 67 67 rfl wr.heap.size 50 j0 (.int .u64 0) 1 8 Tryd.underlying67 hj hj0 hj1 hj2 rfl (by decide) _ 0 [] rfl E8.out _ 8 (uv V.list) rfl S8.out HM1.out (by omega) HM3.out ?_)
                  intro v9 w9 hown9 hg9
                  obtain ⟨g, cap9, rfl, hc91, hc92, hg91, hg92⟩ := own8_at hown9
                  have V9 : Hid (VAt w9 g V) := Lib.hid (VAt.of_own hown9)
                  have hB9 : Below wr.heap.size wr w9 := ((Below.refl wr.heap.size wr).alloc (Nat.le_refl _) _).grown hg9.gb (by simp) (fun q hq => by simp [Value.ownBlock] at hq; omega)
                  have A9 := Lib.hid (A8.out.on hB9)
                  have W9 := Lib.hid (W8.out.kept (hB9.block wb hwbl))
                  have HG9 : Hid (wr.heap.size ≤ w9.heap.size) := Lib.hid hB9.size
                  obtain ⟨tp, htp⟩ : ∃ tp, tp = wr.heap.size := ⟨_, rfl⟩
                  rw [← htp] at A9 HG9 hwbl hg91
                  clear hown9 hg9 hB9 E8 S8 A8 W8 HM1 HM3 htp
                  go_wp2_with fail
                  clear hdk1
                  go_loopw [16, 17] (fun v i wq => ∃ (k g cap : Nat) (U : Eight), k ≤ 64 ∧ i = .int .i64 k ∧ v = .slice (some ⟨g, 0, none⟩) 8 cap ∧ 8 ≤ cap ∧ cap ≤ 9223372036854775807 ∧ Hid (tp ≤ g ∧ g < wq.heap.size) ∧ Hid (U = roundsN ws V k) ∧ Hid (VAt wq g U) ∧ Hid (WordsAt wq wb ws) ∧ Hid (Amb w T kb hb (.slice (some ba) pad.length cq) pad V.list tp wq)) (fun _ i _ => 64 - (intOf i).toNat)
                  case atStart => exact ⟨0, g, cap9, V, by omega, rfl, rfl, hc91, hc92, Lib.hid ⟨hg91, hg92⟩, Lib.hid rfl, V9, W9, A9⟩
                  case round =>
                    obtain ⟨k, g, cap, U, hk, rfl, rfl, hcp1, hcp2, hgs, HU, VU, WU, AU⟩ := hrel
                    clear V9 W9 A9 hc91 hc92 hg91 hg92 HG9
                    by_cases hk64 : k < 64
                    · have HLU := Lib.hid (roundsN_lt (ws := ws) HVL.out k)
                      rw [← HU.out] at HLU
                      refine round6 w T kb hb wb tp (.slice (some ba) pad.length cq) pad V.list ws k g cap U wr _ _ _ _ _ _ _ _ _ _ _ _ _ _ _ _ _ _ _ _ _ _ _ _ _ _ _ _ _ _ _ _ _ _ _ _ _ _ _ _ _ _ _ _ _ _ _ _ _ _ _ _ _ _ _ _ _ _ _ _ _ _ _ _ _ _ _ _ _ _ _ _ _ _ _ _ _ _ _ _ _ _ _ _ _ _ _ _ _ _ _ _ _ _ _ _ _ _ _ _ _ _ _ _ _ _ _ _ _ _ _ _ _ _ _ _ _ _ _ _ _ _ _ _ _ _ _ _ _ _ _ _ _ _ _ _ _ _ _ _ _ _ _ _ _ _ _ _ _ _ _ _ _ _ _ _ _ _ _ _ _ _ _ _ _ _ _ _ _ _ _ _ _ _ _ _ _ _ _ _ _ _ _ _ _ _ _ _ _ _ _ _ _ _ _ _ _ _ _ _ _ _ _ _ _ _ _ _ _ _ _ _ _ _ _ _ _ _ _ _ _ _ _ _ _ _ _ _ _ _ _ _ _ _ _ _ _ _ _ _ _ _ _ _ _ _ _ _ _ _ _ _ _ _ _ _ _ _ _ _ _ _ _ _ _ _ _ _ _ _ _ _ _ _ _ _ _ _ _ _ _ _ _ _ _ _ _ _ _ _ _ _ _ _ _ hk64 hcp1 hcp2 hgs HLU HSL HSLT VU WU AU ?_
                      intro w' g2 x0 x1 x2 x3 x4 x5 x6 x7 x8 x9 x10 x11 x12 x13 x14 x15 x16 x17 x18 x19 x20 x21 x22 x23 x24 x25 x26 x27 x28 x29 x30 x31 x32 x33 x34 x35 x36 x37 x38 x39 x40 x41 x42 x43 x44 x45 x46 x47 x48 x49 x50 x51 x52 x53 x54 x55 x56 x57 x58 x59 x60 x61 x62 x63 x64 x65 x66 x67 x68 x69 x70 x71 x72 x73 x74 x75 x76 x77 x78 x79 x80 x81 x82 x83 x84 x85 x86 x87 x88 x89 x90 x91 x92 x93 x94 x95 x96 x97 x98 x99 x100 x101 x102 x103 x104 x105 x106 x107 x108 x109 x110 x111 x112 x113 x114 x115 x116 x117 x118 x119 x120 x121 x122 x123 x124 x125 hv1 hw1 ha1 ht1 ht2
                      go_wp2_with fail
                      go_roundw
                      case rel => exact ⟨k + 1, g2, 8, _, by omega, by go_num, rfl, by omega, by omega, Lib.hid ⟨ht1, ht2⟩, Lib.hid (by rw [HU.out]; rfl), Lib.hid hv1, Lib.hid hw1, Lib.hid ha1⟩
                      case measure => simp [intOf]; omega
                    · have hk64' : k = 64 := by omega
                      have HUE : Hid (blockN pad o V = addE V U) := Lib.hid (by rw [HBN.out, HU.out, hk64'])
                      have hdk : decide ((k : Int) < 64) = false := decide_eq_false (by omega)
                      have HLU := Lib.hid (roundsN_lt (ws := ws) HVL.out k)
                      rw [← HU.out] at HLU
                      have hghb : hb < g := Nat.lt_of_lt_of_le AU.out.lt.2.1 hgs.out.1
                      clear hk64' HU WU hk64
                      go_wp2_with fail
                      clear hdk
                      go_loopw [22] (fun i wq => ∃ j : Nat, j ≤ 8 ∧ i = .int .i64 j ∧ Hid (VAt wq g U) ∧ Hid (Amb w T kb hb (.slice (some ba) pad.length cq) pad (addL V.list U.list j) tp wq)) (fun i _ => 8 - (intOf i).toNat)
                      case atStart => exact ⟨0, by omega, rfl, VU, AU⟩
                      case round =>
                        obtain ⟨j, hj8, rfl, VJ, AJ⟩ := hrel
                        clear VU AU
                        by_cases hlj : j < 8
                        · have hlen := addL_len V U.list j
                          have hx : (addL V.list U.list j).getD j 0 = V.list.getD j 0 := addL_at V.list U.list j j (Nat.le_refl _)
                          have lx : V.list.getD j 0 < 4294967296 := getD_lt HVL.out
                          have ly : U.list.getD j 0 < 4294967296 := getD_lt HLU.out
                          have c1 : wr.cell? ⟨hb, j, none⟩ = some (.int .u64 ((V.list.getD j 0 : Nat) : Int)) := by
                            rw [AJ.out.h.cell j (by rw [hlen]; exact hlj), ← hx]
                            simp [List.getD, List.getElem?_eq_getElem (show j < (addL V.list U.list j).length by rw [hlen]; exact hlj)]
                          have c2 := VJ.out j hlj
                          have HAL : Hid (addL V.list U.list (j + 1) = (addL V.list U.list j).set j ((V.list.getD j 0 + U.list.getD j 0) % two32)) := Lib.hid (by rw [← hx]; rfl)
                          generalize V.list.getD j 0 = x at *
                          generalize U.list.getD j 0 = y at *
                          obtain ⟨z, hz⟩ : ∃ z, z = (x + y) % two32 := ⟨_, rfl⟩
                          have u1 : IntKind.u64.wrap ((x : Int) + (y : Int)) = (x : Int) + (y : Int) := by rw [IntKind.wrap_u64]; omega
                          have u2 : ((x : Int) + (y : Int)).tmod 4294967296 = (z : Int) := by rw [Int.tmod_eq_emod_of_nonneg (by omega), hz]; unfold two32; omega
                          rw [← hz] at HAL
                          have AK := Lib.hid ((AJ.out.on (below_draw tp wr 1)).put j z (by omega) (fun q hq => by have := HTK.out q hq; omega) HTW.out)
                          have VK := Lib.hid (VJ.out.kept (w' := (wr.drewN 1).setCell ⟨hb, j, none⟩ (.int .u64 (z : Int))) (heap_setCell_other _ _ _ _ (by simp; omega)))
                          have hcd : (wr.drewN 1).cell? ⟨hb, j, none⟩ = some (.int .u64 (x : Int)) := c1
                          have hfd : (wr.drewN 1).frozen? ⟨hb, j, none⟩ = false := (AJ.out.on (below_draw tp wr 1)).h.free j
                          have HCD := Lib.hid hcd
                          have HFD := Lib.hid hfd
                          have e1 : (j : Int) < 8 := by omega
                          have e2 : (0 : Int) ≤ (j : Int) := by omega
                          clear hz hx lx ly hlen hcd hfd VJ AJ
                          go_wp2_with fail
                          go_still_tail 14, (by kernel_rfl)
                          change wpList _ _ _ _ _ (wr.drewN 1)
                          clear c1 c2 u1 u2
                          generalize wr.drewN 1 = wd at *
                          have hfd := HFD.out
                          have hcd := HCD.out
                          go_wp2_with fail
                          go_roundw
                          case rel => exact ⟨j + 1, by omega, by go_num, VK, Lib.hid (by rw [HAL.out]; exact AK.out)⟩
                          case measure => simp [intOf]; omega
                        · have hj8' : j = 8 := by omega
                          have AE : Hid (Amb w T kb hb (.slice (some ba) pad.length cq) pad (blocksN pad (n + 1)).list tp wr) := Lib.hid (by
                            have h1 := AJ.out
                            rw [hj8', addL_all] at h1
                            rwa [← HVN.out (addE U V) (by rw [HUE.out, addE_comm])])
                          clear hj8'
                          go_wp2_with fail
                          go_roundw
                          case rel => exact ⟨n + 1, congrArg (Value.int .i64) (by have := HON.out; omega), by have := HON.out; omega, Lib.hid ⟨tp, AE.out⟩⟩
                          case measure => have hon := HON.out; simp [intOf]; omega
            · have hne : 64 * n = pad.length := by omega
              have hnn : pad.length / 64 = n := by omega
              obtain ⟨V, hV⟩ : ∃ V, V = blocksN pad n := ⟨_, rfl⟩
              have HSV : Hid (sumN s = (List.range 32).map (outB V.list)) := Lib.hid (by rw [HSUM.out, hnn, hV])
              have HVL : Hid (∀ x ∈ V.list, x < two32) := Lib.hid (by rw [hV]; exact blocksN_lt pad n)
              obtain ⟨o64, ho64⟩ : ∃ o, o = 64 * n := ⟨_, rfl⟩
              have hdn : decide ((o64 : Int) < (pad.length : Int)) = false := decide_eq_false (by omega)
              have hdn2 : ¬ o64 < pad.length := by omega
              rw [← ho64]
              rw [← hV] at hA
              have i2 := IDAt.new wr
              have c1 := i2.write (l := zeros) zeros_len
              have zl : (bv zeros).length = n32 := rfl
              have I10 := Lib.hid (i2.put (l := zeros) zeros_len)
              have A10 := Lib.hid (hA.on (below_setRow ((Below.refl wr.heap.size wr).alloc (Nat.le_refl _) (.cells (bv zeros).toArray 33)) (Nat.le_refl _) (bv zeros).toArray))
              clear hA HA i2 hne hnn hV ho64 hlt hn
              go_upto_region 42 with fail
              clear c1 hdn hdn2
              generalize (wr.alloc (.cells (bv zeros).toArray 33)).setRow wr.heap.size (bv zeros).toArray = w10 at *
              obtain ⟨ob, hob⟩ : ∃ ob, ob = wr.heap.size := ⟨_, rfl⟩
              rw [← hob] at I10 A10 ⊢
              clear hob
              go_wp2_with fail
              go_loopw [24] (fun i wq => ∃ j : Nat, j ≤ 32 ∧ i = .int .i64 j ∧ Hid (IDAt wq ob (outL V.list j)) ∧ Hid (Amb w T kb hb (.slice (some ba) pad.length cq) pad V.list ob wq)) (fun i _ => 32 - (intOf i).toNat)
              case atStart => exact ⟨0, by omega, rfl, Lib.hid (by rw [outL_zero]; exact I10.out), A10⟩
              case round =>
                obtain ⟨j, hj32, rfl, IJ, AJ⟩ := hrel
                clear I10 A10
                by_cases hlj : j < 32
                · obtain ⟨q, hq⟩ : ∃ q, q = j / 4 := ⟨_, rfl⟩
                  obtain ⟨r, hr⟩ : ∃ r, r = j % 4 := ⟨_, rfl⟩
                  obtain ⟨sh, hsh⟩ : ∃ sh, sh = 24 - 8 * r := ⟨_, rfl⟩
                  have hq8 : q < 8 := by omega
                  have lx : V.list.getD q 0 < two32 := getD_lt HVL.out
                  have c1 : wr.cell? ⟨hb, q, none⟩ = some (.int .u64 ((V.list.getD q 0 : Nat) : Int)) := by
                    rw [AJ.out.h.cell q hq8]; simp [List.getD, List.getElem?_eq_getElem (show q < V.list.length from hq8)]; rfl
                  have HON : Hid ((outL V.list j).set j (UInt8.ofNat (V.list.getD q 0 / 2 ^ sh % 256)) = outL V.list (j + 1)) := Lib.hid (by rw [outL_set V.list j hlj, hq, hsh, hr]; all_goals (first | rfl | (unfold outB; rfl)))
                  generalize V.list.getD q 0 = x at *
                  have HDR := Lib.hid (fun W => drop_any x sh W lx (by omega))
                  have hy : x / 2 ^ sh ≤ x := Nat.div_le_self _ _
                  have ly : x / 2 ^ sh < 4294967296 := Nat.lt_of_le_of_lt hy lx
                  generalize x / 2 ^ sh = y at *
                  have d1 : (j : Int) / 4 = (q : Int) := by omega
                  have d2 : (j : Int) % 4 = (r : Int) := by omega
                  have d3 : (24 : Int) - 8 * (r : Int) = (sh : Int) := by omega
                  have d4 : (y : Int).tmod 256 = ((y % 256 : Nat) : Int) := by rw [Int.tmod_eq_emod_of_nonneg (by omega)]; omega
                  have d5 : IntKind.u8.wrap ((y % 256 : Nat) : Int) = ((y % 256 : Nat) : Int) := by simp [IntKind.wrap, IntKind.bits, IntKind.signed] <;> omega
                  have hr4 : r < 4 := by omega
                  have hdj : decide ((j : Int) < 32) = true := decide_eq_true (by omega)
                  have hul := IJ.out.len
                  have hcd : wr.cell? ⟨ob, j, none⟩ = some (.int .u8 (((outL V.list j)[j]'(by rw [hul]; exact hlj)).toNat : Nat)) := IJ.out.cell j (by rw [hul]; exact hlj)
                  obtain ⟨old, hold⟩ : ∃ old : Nat, old = ((outL V.list j)[j]'(by rw [hul]; exact hlj)).toNat := ⟨_, rfl⟩
                  rw [← hold] at hcd
                  have hfd := IJ.out.free j
                  have e1 : (j : Int) < 32 := by omega
                  have e2 : (0 : Int) ≤ (j : Int) := by omega
                  clear hq hr hsh lx hy hold hul
                  go_wp2_with fail
                  refine (HDR.out _).mono ?_
                  rintro e w' ⟨rfl, rfl⟩
                  go_wp2_with fail
                  clear d1 d2 d3 d4 d5 hdj hcd hfd
                  go_roundw
                  case rel => exact ⟨j + 1, by omega, by go_num, Lib.hid (by have h := IJ.out.set j (y % 256) (Nat.mod_lt _ (by decide)); rw [HON.out] at h; push_cast at h; exact h), Lib.hid (AJ.out.on (below_words wr ob j _ (Nat.le_refl _)))⟩
                  case measure => simp [intOf]; omega
                · have hj : j = 32 := by omega
                  have hdj : decide ((j : Int) < 32) = false := decide_eq_false (by omega)
                  have IE : Hid (IDAt wr ob (sumN s)) := Lib.hid (by rw [HSV.out, ← outL_all, ← hj]; exact IJ.out)
                  have HLN := Lib.hid (sumN_len s)
                  clear hj
                  have c1 := IE.out.cells
                  have c2 := AJ.out.i.write (l := sumN s) HLN.out
                  have zl : (bv (sumN s)).length = n32 := by rw [bv_len, HLN.out]; rfl
                  have HP := Lib.hid (AJ.out.i.put (l := sumN s) HLN.out)
                  have HBF := Lib.hid (below_setRow AJ.out.bw (Nat.le_refl _) (bv (sumN s)).toArray)
                  obtain ⟨o, ho⟩ : ∃ o, o = sumN s := ⟨_, rfl⟩
                  rw [← ho] at c1 c2 zl HP HBF
                  have HO := Lib.hid ho
                  clear ho
                  go_wp2_with fail
                  exact bodyPost_ret (v := .agg (bv o).toArray) (results_row rfl _ _ rfl Tryd.under33' (by rw [zl]; exact Tryd.size33) ⟨HP.out.blk⟩) rfl ⟨by rw [HO.out], HBF.out⟩
end Go.Proofs.YtdolonkeanlaoaaDoor
