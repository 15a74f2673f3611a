/- The walk of spread. -/
import Derived.Test.YteijekhmgedhoaaDoorShaI
import Derived.StillTailTactics
namespace Go.Proofs.YteijekhmgedhoaaDoor
open Go.RowKit
attribute [local simp high] st_size st_zero s8_size b64_size b64_zero w64_size w64_zero

theorem Tryd.under106' : Tryd.prog.underlying 106 = some (.array 64 64) := by kernel_rfl
theorem Tryd.size106 : (Tryd.prog.info? 106).map (·.size) = some n64 := by kernel_rfl
theorem results_row {fn : Func} {p : Tmp} {t : TypeId} (h : fn.results = #[.cell p t]) (tmps : Array Value) (w : World) {b : Nat} {vs : List Value} (hp : tmps.getD p undef = .pointer (some ⟨b, 0, none⟩)) {n : Nat} {e : TypeId} (hu : Tryd.prog.underlying t = some (.array n e)) (hs : (Tryd.prog.info? t).map (·.size) = some vs.length) (hI : RowAt w b t vs) :
    (results fn tmps).run Tryd.prog w = .ok (.agg vs.toArray) w := by
  have := run_loadVar_row (P := Tryd.prog) w b t t vs.toArray (0, 0) _ hI.blk hu rfl (by simpa using hs)
  have hp' : tmps[p]?.getD undef = .pointer (some ⟨b, 0, none⟩) := by simpa using hp
  simp only [results, h]
  simp [hp', asAddr, this]
theorem getD_lt {l : List Nat} {n : Nat} (h : ∀ x ∈ l, x < two32) : l.getD n 0 < two32 := by
  simp only [List.getD]
  cases hx : l[n]? with
  | none => show 0 < two32; unfold two32; omega
  | some x => exact h x (List.mem_of_getElem? hx)
theorem wordAt_lt (b : List UInt8) (i : Nat) : wordAt b i < two32 := by
  rw [← partW_four]
  exact partW_lt b i 4 (Nat.le_refl _)
theorem schedL_lt (b : List UInt8) (o i : Nat) : ∀ x ∈ schedL b o i, x < two32 := by
  induction i with
  | zero => simp [schedL]
  | succ i ih =>
    intro x hx
    rw [schedL] at hx
    rcases List.mem_append.1 hx with h | h
    · exact ih x h
    · rw [List.mem_singleton] at h
      rw [h]
      split
      · exact wordAt_lt _ _
      · exact Nat.mod_lt _ (by unfold two32; omega)
theorem take_set_snoc {l : List Nat} {n v : Nat} (h : n < l.length) : (l.set n v).take (n + 1) = l.take n ++ [v] := by
  rw [List.take_succ_eq_append_getElem (by rw [List.length_set]; exact h), List.getElem_set_self, List.take_set_of_le (Nat.le_refl _)]
theorem take_getD {ws l : List Nat} {n j : Nat} (h : ws.take n = l) (hj : j < n) : ws.getD j 0 = l.getD j 0 := by
  rw [← h]; simp only [List.getD]; rw [List.getElem?_take, if_pos hj]
theorem sched_next {b : List UInt8} {k a v : Nat} (hk : 16 ≤ k) (h : a = ((schedL b 0 k).getD (k - 16) 0 + (schedL b 0 k).getD (k - 7) 0 + sml0 ((schedL b 0 k).getD (k - 15) 0) + sml1 ((schedL b 0 k).getD (k - 2) 0)) % two32) (hv : v = a) : schedL b 0 k ++ [v] = schedL b 0 (k + 1) := by
  rw [schedL, if_neg (by omega), hv, h]
set_option maxRecDepth 100000 in
set_option maxHeartbeats 4000000 in
theorem spread_any (b : List UInt8) (w : World) (hb : b.length = 64) : Calls Tryd.prog 65 #[.agg (bv b).toArray] w fun e w' => e = .returned (.agg (wv (schedL b 0 64)).toArray) ∧ Below w.heap.size w w' := by
  have HL := Lib.hid hb
  have hr1 := RowAt.new w 67 (bv b)
  have HB1 := Lib.hid ((Below.refl w.heap.size w).alloc (Nat.le_refl _) (.cells (bv b).toArray 67))
  clear hb
  go_enter Tryd.func65, Tryd.ntmps65
  go_wp2_with fail
  have hr2 := RowAt.new (w.alloc (.cells (bv b).toArray 67)) 106 (wv zeros64)
  have hr3 := RowAt.new ((w.alloc (.cells (bv b).toArray 67)).alloc (.cells (wv zeros64).toArray 106)) 106 (wv zeros64)
  have hbw := ((HB1.out.alloc (by simp) (.cells (wv zeros64).toArray 106))).alloc (by simp; omega) (.cells (wv zeros64).toArray 106)
  replace hr1 := (hr1.kept (Below.heap_alloc _ (.cells (wv zeros64).toArray 106) _ hr1.lt))
  replace hr1 := (hr1.kept (Below.heap_alloc _ (.cells (wv zeros64).toArray 106) _ hr1.lt))
  replace hr2 := (hr2.kept (Below.heap_alloc _ (.cells (wv zeros64).toArray 106) _ hr2.lt))
  simp only [World.size_alloc] at hr2 hr3
  generalize ((w.alloc (.cells (bv b).toArray 67)).alloc (.cells (wv zeros64).toArray 106)).alloc (.cells (wv zeros64).toArray 106) = w3 at *
  obtain ⟨b1, hb1⟩ : ∃ b1, b1 = w.heap.size := ⟨_, rfl⟩
  obtain ⟨b2, hb2⟩ : ∃ b2, b2 = w.heap.size + 1 := ⟨_, rfl⟩
  obtain ⟨b3, hb3⟩ : ∃ b3, b3 = w.heap.size + 1 + 1 := ⟨_, rfl⟩
  have hbd : w.heap.size ≤ b1 ∧ b1 < b2 ∧ b2 < b3 := by omega
  rw [← hb3] at hr3 ⊢
  rw [← hb2] at hr2 ⊢
  have hr1' : RowAt w3 b1 67 (bv b) := by rw [hb1]; exact hr1
  have HX1 := Lib.hid hr1'
  have HX2 := Lib.hid hr2
  have HX3 := Lib.hid hr3
  have HBW := Lib.hid hbw
  obtain ⟨hd1, hd2, hd3⟩ := hbd
  have HB1E := Lib.hid hb1
  clear hr1 hr1' hr2 hr3 hbw hb2 hb3
  have HW0 := Lib.hid (wordsIn_zero b)
  rw [show (Value.pointer (some { block := w.heap.size, off := 0 }) : Value) = .pointer (some ⟨b1, 0, none⟩) by rw [hb1]]
  clear hb1
  go_loopw [8] (fun i wr => ∃ k : Nat, k ≤ 64 ∧ i = .int .i64 k ∧ RowAt wr b1 67 (bv b) ∧ RowAt wr b2 106 (wv zeros64) ∧ RowAt wr b3 106 (wv (wordsIn b k)) ∧ Below w.heap.size w wr) (fun i _ => 64 - (intOf i).toNat)
  case atStart => exact ⟨0, by omega, rfl, HX1.out, HX2.out, by rw [HW0.out]; exact HX3.out, HBW.out⟩
  case round =>
    obtain ⟨k, hk, rfl, hr1, hr2, hr3, hbw⟩ := hrel
    have J1 := Lib.hid hr1
    have J2 := Lib.hid hr2
    have J3 := Lib.hid hr3
    have JB := Lib.hid hbw
    by_cases hlt : k < 64
    · have c1 := (hr1.cell k).trans (bv_getD (by rw [HL.out]; exact hlt))
      have c3 := (hr3.cell (k / 4)).trans (wv_at (by rw [wordsIn_len]; omega))
      have f3 := hr3.free (k / 4)
      have HS := Lib.hid (wordsIn_succ b k hlt)
      have hpl : (wordsIn b k).getD (k / 4) 0 < 16777216 := by
        rw [wordsIn_at _ _ _ (by omega), show min 4 (k - 4 * (k / 4)) = k - 4 * (k / 4) by omega]
        have h1 := partW_lt b (4 * (k / 4)) (k - 4 * (k / 4)) (by omega)
        have h2 : (256 : Nat) ^ (k - 4 * (k / 4)) ≤ 256 ^ 3 := Nat.pow_le_pow_right (by omega) (by omega)
        omega
      have hc8 := (b.getD k 0).toNat_lt
      clear hr1 hr2 hr3 hbw
      have hx0 := wv_at (l := wordsIn b k) (k := k / 4) (by rw [wordsIn_len]; omega)
      generalize (wordsIn b k).getD (k / 4) 0 = x at *
      generalize (b.getD k 0).toNat = y at *
      have hst := (J3.out.kept (w' := wr.drewN 1) rfl).set (k / 4) (.int .u32 ((x * 256 + y : Nat) : Int))
      have c3d := (J3.out.kept (w' := wr.drewN 1) rfl).cell (k / 4)
      have f3d := (J3.out.kept (w' := wr.drewN 1) rfl).free (k / 4)
      rw [hx0] at c3d
      rw [wv_set, ← HS.out] at hst
      have HST := Lib.hid hst
      clear hst
      obtain ⟨q, hq⟩ : ∃ q, q = k / 4 := ⟨_, rfl⟩
      have hw4 : IntKind.i64.wrap ((k : Int) / 4) = (q : Int) := by rw [IntWalk.i64_in _ (by omega)]; omega
      have hq1 : (0 : Int) ≤ (q : Int) := by omega
      have hq2 : (q : Int) < 64 := by omega
      have hq3 : q < 64 := by omega
      rw [← hq] at c3 f3 HST c3d f3d
      have hx1 : IntKind.u32.wrap ((x : Int) * 256) = ((x * 256 : Nat) : Int) := by rw [wrap_u32]; omega
      have hx2 : IntKind.u32.wrap (((x * 256 : Nat) : Int) + (y : Int)) = ((x * 256 + y : Nat) : Int) := by rw [wrap_u32]; omega
      have I1 := Lib.hid (J1.out.kept (w' := wr.drewN 1) rfl)
      have I2 := Lib.hid (J2.out.kept (w' := wr.drewN 1) rfl)
      have IB := Lib.hid (show Below w.heap.size w (wr.drewN 1) from JB.out.trans (below_drewN _ _ _))
      have C3D := Lib.hid c3d
      have F3D := Lib.hid f3d
      clear hq c3d f3d hx0
      go_wp2_with fail
      go_still_tail 13, (by kernel_rfl)
      change wpList _ _ _ _ _ (wr.drewN 1)
      clear c1 c3 f3 J1 J2 J3 JB
      generalize wr.drewN 1 = wd at *
      have c3d := C3D.out
      have f3d := F3D.out
      go_wp2_with fail
      go_roundw
      case rel =>
        refine ⟨k + 1, by omega, by go_num, I1.out.kept (heap_setCell_other _ _ _ _ (by simp; omega)), I2.out.kept (heap_setCell_other _ _ _ _ (by simp; omega)), HST.out, IB.out.setCell (by simp; omega) _⟩
      case measure => simp [intOf]; omega
    · have hk64 : k = 64 := by omega
      have HT : Hid ((wordsIn b k).take 16 = schedL b 0 16) := Lib.hid (by rw [hk64]; exact wordsIn_all b 16 (Nat.le_refl _))
      have HTL := Lib.hid (wordsIn_len b k)
      have hd64 : decide ((k : Int) < 64) = false := by rw [hk64]; rfl
      clear hk64 hlt
      generalize wordsIn b k = ws0 at *
      obtain ⟨wz, hwz⟩ : ∃ wz, wz = wr := ⟨_, rfl⟩
      subst hwz
      clear hr1 hr2 hr3 hbw HX1 HX2 HX3 HBW
      go_wp2_with fail
      go_loopw [25] (fun i wr => ∃ (k : Nat) (ws : List Nat), k ≤ 48 ∧ i = .int .i64 k ∧ ws.length = 64 ∧ ws.take (16 + k) = schedL b 0 (16 + k) ∧ RowAt wr b2 106 (wv zeros64) ∧ RowAt wr b3 106 (wv ws) ∧ Below w.heap.size w wr) (fun i _ => 48 - (intOf i).toNat)
      case atStart => exact ⟨0, ws0, by omega, rfl, HTL.out, HT.out, J2.out, J3.out, JB.out⟩
      case round =>
        obtain ⟨k, ws, hk, rfl, hwl, htk, hr2, hr3, hbw⟩ := hrel
        have HWL := Lib.hid hwl
        have HTK := Lib.hid htk
        have K2 := Lib.hid hr2
        have K3 := Lib.hid hr3
        have KB := Lib.hid hbw
        by_cases hlt : k < 48
        · have hnx := fun v h => @sched_next b (16 + k) _ v (by omega) rfl h
          rw [show 16 + k - 16 = k by omega, show 16 + k - 7 = k + 9 by omega, show 16 + k - 15 = k + 1 by omega, show 16 + k - 2 = k + 14 by omega] at hnx
          have HNX := Lib.hid hnx
          have cc : ∀ n j, j < 16 + k → (wr.drewN n).cell? ⟨b3, j, none⟩ = some (.int .u32 ((schedL b 0 (16 + k)).getD j 0 : Nat)) := fun n j hj => by
            rw [← take_getD HTK.out hj]
            exact (hr3.cell j).trans (wv_at (by rw [hwl]; omega))
          have l0 : (schedL b 0 (16 + k)).getD k 0 < two32 := getD_lt (schedL_lt _ _ _)
          have l1 : (schedL b 0 (16 + k)).getD (k + 1) 0 < two32 := getD_lt (schedL_lt _ _ _)
          have l9 : (schedL b 0 (16 + k)).getD (k + 9) 0 < two32 := getD_lt (schedL_lt _ _ _)
          have l14 : (schedL b 0 (16 + k)).getD (k + 14) 0 < two32 := getD_lt (schedL_lt _ _ _)
          have C0 := Lib.hid (fun n => cc n k (by omega))
          have C1 := Lib.hid (fun n => cc n (k + 1) (by omega))
          have C9 := Lib.hid (fun n => cc n (k + 9) (by omega))
          have C14 := Lib.hid (fun n => cc n (k + 14) (by omega))
          have HTS := Lib.hid (fun v => @take_set_snoc ws (16 + k) v (by omega))
          have hcv := (hr3.cell (16 + k)).trans (wv_at (by omega))
          have hfv := hr3.free (16 + k)
          have HCV := Lib.hid hcv
          have HFV := Lib.hid hfv
          clear hnx cc hwl htk hr2 hr3 hbw hcv hfv
          rw [HTK.out] at HTS
          generalize (schedL b 0 (16 + k)).getD k 0 = a0 at *
          generalize (schedL b 0 (16 + k)).getD (k + 1) 0 = a1 at *
          generalize (schedL b 0 (16 + k)).getD (k + 9) 0 = a9 at *
          generalize (schedL b 0 (16 + k)).getD (k + 14) 0 = a14 at *
          have e : two32 = 2 ^ 32 := rfl
          have r1 := rotN_lt l1 (n := 7) (by omega)
          have r2 := rotN_lt l1 (n := 18) (by omega)
          have r3 := rotN_lt l14 (n := 17) (by omega)
          have r4 := rotN_lt l14 (n := 19) (by omega)
          have x1 := bits_xor_u32_nat _ _ r1 r2
          have x2 := bits_xor_u32_nat (rotN a1 7 ^^^ rotN a1 18) (a1 / 8) (by rw [e] at *; exact Nat.xor_lt_two_pow r1 r2) (by omega)
          have x3 := bits_xor_u32_nat _ _ r3 r4
          have x4 := bits_xor_u32_nat (rotN a14 17 ^^^ rotN a14 19) (a14 / 1024) (by rw [e] at *; exact Nat.xor_lt_two_pow r3 r4) (by omega)
          have hs0 := sml0_lt l1
          have hs1 := sml1_lt l14
          rw [show (rotN a1 7 ^^^ rotN a1 18) ^^^ (a1 / 8) = sml0 a1 from rfl] at x2
          rw [show (rotN a14 17 ^^^ rotN a14 19) ^^^ (a14 / 1024) = sml1 a14 from rfl] at x4
          have R1 := Lib.hid (fun w => rot_any a1 7 (-7) w (by omega) l1 (by omega) (by omega))
          have R2 := Lib.hid (fun w => rot_any a1 18 (-18) w (by omega) l1 (by omega) (by omega))
          have R3 := Lib.hid (fun w => rot_any a14 17 (-17) w (by omega) l14 (by omega) (by omega))
          have R4 := Lib.hid (fun w => rot_any a14 19 (-19) w (by omega) l14 (by omega) (by omega))
          have e1 : ((a1 : Int) / 8) = ((a1 / 8 : Nat) : Int) := by omega
          have e2 : ((a14 : Int) / 1024) = ((a14 / 1024 : Nat) : Int) := by omega
          generalize sml0 a1 = s0 at *
          generalize sml1 a14 = s1 at *
          generalize rotN a1 7 ^^^ rotN a1 18 = y1 at *
          generalize rotN a14 17 ^^^ rotN a14 19 = y2 at *
          generalize rotN a1 7 = p1 at *
          generalize rotN a1 18 = p2 at *
          generalize rotN a14 17 = p3 at *
          generalize rotN a14 19 = p4 at *
          generalize a1 / 8 = q1 at *
          generalize a14 / 1024 = q2 at *
          have hv1 : IntKind.u32.wrap ((a0 : Int) + (s0 : Int)) = (((a0 + s0) % two32 : Nat) : Int) := by rw [wrap_u32]; unfold two32; omega
          have hv2 : IntKind.u32.wrap ((((a0 + s0) % two32 : Nat) : Int) + (a9 : Int)) = (((a0 + s0 + a9) % two32 : Nat) : Int) := by rw [wrap_u32]; unfold two32; omega
          have hv3 : IntKind.u32.wrap ((((a0 + s0 + a9) % two32 : Nat) : Int) + (s1 : Int)) = (((a0 + a9 + s0 + s1) % two32 : Nat) : Int) := by rw [wrap_u32]; unfold two32; omega
          have HV1 := Lib.hid hv1
          have HV2 := Lib.hid hv2
          have HV3 := Lib.hid hv3
          have X1 := Lib.hid x1
          have X2 := Lib.hid x2
          have X3 := Lib.hid x3
          have X4 := Lib.hid x4
          have E1 := Lib.hid e1
          have E2 := Lib.hid e2
          clear hv1 hv2 hv3 x1 x2 x3 x4 e1 e2 e r1 r2 r3 r4
          have d1 : wr.cell? ⟨b3, k + 1, none⟩ = some (.int .u32 (a1 : Int)) := C1.out 0
          have d14 : wr.cell? ⟨b3, k + 14, none⟩ = some (.int .u32 (a14 : Int)) := C14.out 0
          have g1 : (0 : Int) ≤ (k : Int) + 1 := by omega
          have g2 : (k : Int) + 1 < 64 := by omega
          have g4 : (0 : Int) ≤ (k : Int) + 14 := by omega
          have g5 : (k : Int) + 14 < 64 := by omega
          have hk1 : IntKind.i64.wrap ((k : Int) + 1) = (k : Int) + 1 := IntWalk.i64_in _ (by omega)
          have hk14 : IntKind.i64.wrap ((k : Int) + 14) = (k : Int) + 14 := IntWalk.i64_in _ (by omega)
          have g3 : ((k : Int) + 1).toNat = k + 1 := by omega
          have g6 : ((k : Int) + 14).toNat = k + 14 := by omega
          go_wp2_with fail
          go_quiet (fail)
          have c0 : (wr.drewN nq).cell? ⟨b3, k, none⟩ = some (.int .u32 (a0 : Int)) := C0.out nq
          have c9 : (wr.drewN nq).cell? ⟨b3, k + 9, none⟩ = some (.int .u32 (a9 : Int)) := C9.out nq
          have J2' := Lib.hid (K2.out.kept (w' := wr.drewN nq) rfl)
          have J3' := Lib.hid (K3.out.kept (w' := wr.drewN nq) rfl)
          have JB' := Lib.hid (show Below w.heap.size w (wr.drewN nq) from KB.out.trans (below_drewN _ _ _))
          have hcv : ∃ u, (wr.drewN nq).cell? ⟨b3, 16 + k, none⟩ = some u := ⟨_, HCV.out⟩
          have hfv : (wr.drewN nq).frozen? ⟨b3, 16 + k, none⟩ = false := HFV.out
          clear d1 d14 K2 K3 KB HCV HFV C0 C1 C9 C14
          generalize wr.drewN nq = wq at *
          have C0 := Lib.hid c0
          have C9 := Lib.hid c9
          have HCV := Lib.hid hcv
          have HFV := Lib.hid hfv
          clear c0 c9 hcv hfv hk1 hk14 g1 g2 g3 g4 g5 g6
          go_wp2_with fail
          refine (R1.out _).mono ?_
          rintro e w' ⟨rfl, rfl⟩
          go_wp2_with fail
          refine (R2.out _).mono ?_
          rintro e w' ⟨rfl, rfl⟩
          have x1 := X1.out
          have x2 := X2.out
          have e1 := E1.out
          go_wp2_with fail
          refine (R3.out _).mono ?_
          rintro e w' ⟨rfl, rfl⟩
          go_wp2_with fail
          refine (R4.out _).mono ?_
          rintro e w' ⟨rfl, rfl⟩
          have x3 := X3.out
          have x4 := X4.out
          have e2 := E2.out
          go_wp2_with fail
          clear x1 x2 x3 x4 e1 e2
          have c0 := C0.out
          have c9 := C9.out
          have hv1 := HV1.out
          have hv2 := HV2.out
          have hv3 := HV3.out
          obtain ⟨u, hcv⟩ := HCV.out
          have hfv := HFV.out
          rw [show 16 + k = k + 16 by omega] at hcv hfv
          have hcd : (wq.drewN 1).cell? ⟨b3, k + 16, none⟩ = some u := hcv
          have hfd : (wq.drewN 1).frozen? ⟨b3, k + 16, none⟩ = false := hfv
          have HCD := Lib.hid hcd
          have HFD := Lib.hid hfd
          have I2 := Lib.hid (J2'.out.kept (w' := wq.drewN 1) rfl)
          have hst := (J3'.out.kept (w' := wq.drewN 1) rfl).set (k + 16) (.int .u32 (((a0 + a9 + s0 + s1) % two32 : Nat) : Int))
          rw [wv_set] at hst
          have HST := Lib.hid hst
          have IB := Lib.hid (show Below w.heap.size w (wq.drewN 1) from JB'.out.trans (below_drewN _ _ _))
          have HNV := Lib.hid (HNX.out ((a0 + a9 + s0 + s1) % two32) rfl)
          have HTV := Lib.hid (HTS.out ((a0 + a9 + s0 + s1) % two32))
          generalize (a0 + a9 + s0 + s1) % two32 = z at *
          generalize (a0 + s0 + a9) % two32 = z2 at *
          generalize (a0 + s0) % two32 = z1 at *
          clear hcv hfv hcd hfd hst J2' J3' JB' HTS HNX
          have g4 : (0 : Int) ≤ (k : Int) + 9 := by omega
          have g5 : (k : Int) + 9 < 64 := by omega
          have g7 : (0 : Int) ≤ (k : Int) + 16 := by omega
          have g8 : (k : Int) + 16 < 64 := by omega
          have hk9 : IntKind.i64.wrap ((k : Int) + 9) = (k : Int) + 9 := IntWalk.i64_in _ (by omega)
          have hk16 : IntKind.i64.wrap ((k : Int) + 16) = (k : Int) + 16 := IntWalk.i64_in _ (by omega)
          have g6 : ((k : Int) + 9).toNat = k + 9 := by omega
          have g9 : ((k : Int) + 16).toNat = k + 16 := by omega
          have g10 : (0 : Int) ≤ (k : Int) := by omega
          have g11 : (k : Int) < 64 := by omega
          go_still_tail 15, (by kernel_rfl)
          change wpList _ _ _ _ _ (wq.drewN 1)
          clear c0 c9
          generalize wq.drewN 1 = wd at *
          have hcd := HCD.out
          have hfd := HFD.out
          clear hk9 hk16 g4 g5 g6 g7 g8 g9 hv1 hv2 hv3
          go_wp2_with fail
          go_roundw
          case rel =>
            refine ⟨k + 1, ws.set (16 + k) z, by omega, by go_num, by rw [List.length_set]; exact HWL.out, by rw [show 16 + (k + 1) = 16 + k + 1 by omega, HTV.out]; exact HNV.out, I2.out.kept (heap_setCell_other _ _ _ _ (by simp; omega)), by rw [show 16 + k = k + 16 by omega]; exact HST.out, IB.out.setCell (by simp; omega) _⟩
          case measure => simp [intOf]; omega
        · have hk48 : k = 48 := by omega
          have hws : ws = schedL b 0 64 := by
            have h := htk
            rw [hk48] at h
            rw [← h]; exact (List.take_of_length_le (by omega)).symm
          have hd48 : decide ((k : Int) < 48) = false := by rw [hk48]; rfl
          have zl : (wv ws).length = n64 := by rw [wv_len, hwl]; rfl
          clear hk48 hlt
          have HWS := Lib.hid hws
          have c3 := hr3.cells (n := n64) (by rw [wv_len, hwl]; rfl)
          have c2 := hr2.write (vs := wv ws) (by rw [wv_len, wv_len, hwl]; rfl) (wv_one ws)
          have HP := Lib.hid (hr2.put (wv ws))
          have HBF := Lib.hid (below_setRow hbw (show w.heap.size ≤ b2 by omega) (wv ws).toArray)
          clear hwl htk hr2 hr3 hbw hws
          go_wp2_with fail
          refine bodyPost_ret (v := .agg (wv ws).toArray) (results_row rfl _ _ rfl Tryd.under106' (by rw [zl]; exact Tryd.size106) HP.out) rfl ⟨by rw [HWS.out], HBF.out⟩
end Go.Proofs.YteijekhmgedhoaaDoor
