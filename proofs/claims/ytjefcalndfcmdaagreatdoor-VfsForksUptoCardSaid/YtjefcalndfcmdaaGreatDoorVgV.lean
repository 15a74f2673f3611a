/- The reference's Crash. -/
import Derived.Test.YtjefcalndfcmdaaGreatDoorVgU
import Derived.Test.YtjefcalndfcmdaaGreatDoorVfM
namespace Go.Proofs.YtjefcalndfcmdaaGreatDoor
open Go.RowKit Go.Maps
attribute [local go_sem ↓] Go.wp_at_zero Go.wp_at_succ
/-- The files, the first k of them cut. -/
def mixF (b : Int) (l : List Fi) (k : Nat) : List Fi := (l.take k).map (cutF b) ++ l.drop k
theorem mixF_zero (b : Int) (l : List Fi) : mixF b l 0 = l := by simp [mixF]
theorem mixF_all (b : Int) (l : List Fi) : mixF b l l.length = l.map (cutF b) := by simp [mixF]
theorem mixF_len (b : Int) (l : List Fi) (k : Nat) : (mixF b l k).length = l.length := by simp [mixF]; omega
theorem mixF_at (b : Int) {l : List Fi} {k : Nat} (h : k < l.length) : (mixF b l k).getD k noFi = l.getD k noFi := by
  unfold mixF
  have h1 : ((l.take k).map (cutF b)).length = k := by simp; omega
  simp only [List.getD]
  rw [List.getElem?_append_right (by omega), h1, List.getElem?_drop]
  simp
theorem mixF_set (b : Int) {l : List Fi} {k : Nat} (h : k < l.length) : (mixF b l k).set k (cutF b (l.getD k noFi)) = mixF b l (k + 1) := by
  unfold mixF
  have h1 : ((l.take k).map (cutF b)).length = k := by simp; omega
  rw [List.set_append_right _ _ (by omega), h1, Nat.sub_self, take_snoc h (d := noFi), List.map_append, List.append_assoc, List.drop_eq_getElem_cons h]
  rfl
set_option maxRecDepth 100000 in
set_option maxHeartbeats 4000000 in
theorem rcrash_any (S : Nat → Prop) (v : Value) (s : Fs) (ca cb : Int) (w : World) (h : FsV S w v s) (hS : ∀ k, S k → k < w.heap.size) (hB : Bd s) :
    Calls Tryz.prog 34 #[v, .int .i64 ca, .int .i64 cb] w (RV S w (crashS s ca cb)) := by
  obtain ⟨af, an, az, aa, cf, cn, cs, cx, rfl, hR⟩ := h.shape
  clear h
  have HH := Lib.hid hR
  have HS := Lib.hid hS
  have HB := Lib.hid hB
  have HT := Lib.hid (Fr.make w (.slice af s.files.length cf) (.slice an s.now.length cn) (.slice az s.sure.length cs) (.slice aa s.acts.length cx) (s.room : Int) (s.steps : Int) (lim s))
  clear hR hS hB
  unfold fsV zrow at HT
  unfold fsV
  go_enter Tryz.func34, Tryz.ntmps34
  go_upto_region 1 with fail
  obtain ⟨w2, hw2⟩ : ∃ x, ((w.alloc (.cells #[.slice af s.files.length cf, .slice an s.now.length cn, .slice az s.sure.length cs, .slice aa s.acts.length cx, .int .i64 (s.room : Int), .int .i64 (s.steps : Int), .int .i64 (lim s)] 33)).alloc (.cells #[.slice none 0 0, .slice none 0 0, .slice none 0 0, .slice none 0 0, .int .i64 0, .int .i64 0, .int .i64 0] 33)) = x := ⟨_, rfl⟩
  rw [hw2] at HT ⊢
  clear hw2
  have FD := Lib.hid (HT.out.drew 1)
  have hwd : w2.drewN 1 = w2.drew := rfl
  rw [hwd] at FD
  clear hwd HT
  have HR4 := Lib.hid (HH.out.kept (S' := S) (w' := w2.drew) (fun k hk => ⟨hk, FD.out.below.block k (HS.out k hk)⟩))
  have HFL := Lib.hid (rflush_any S af an az aa cf cn cs cx (s.room : Int) (s.steps : Int) (lim s) s (clampI ca s.acts.length) w2.drew HR4.out (fun k hk => Nat.lt_of_lt_of_le (HS.out k hk) FD.out.below.size) (clampI_le _ _) HB.out.ok.dirs (by have h1 := HB.out.ok.cnt; have h2 := HB.out.st; omega))
  have HCL := Lib.hid (rclamp_any ca s.acts.length w2.drew)
  unfold fsV at HFL
  obtain ⟨q0, q1, q2, q3, q4, q5, q6⟩ := FD.out.cells
  have fq := FD.out.free
  go_still_tail 6, (by kernel_rfl)
  still_call HCL.out
  repeat still_step
  refine wpStill_nil ?_
  change wpList _ _ _ _ _ w2.drew
  obtain ⟨d, hd⟩ : ∃ q, doAll s.sure (s.acts.take (clampI ca s.acts.length)) = q := ⟨_, rfl⟩
  rw [hd] at HFL
  have HDE := Lib.hid hd
  clear hd HCL HR4 q0 q1 q2 q3 q4 q5 q6 fq
  obtain ⟨cl, hcl⟩ : ∃ q, clampI ca s.acts.length = q := ⟨_, rfl⟩
  rw [hcl] at HFL ⊢
  clear hcl
  generalize w2.drew = w3 at *
  go_wp2_with fail
  refine HFL.out.mono ?_
  rintro e w4 ⟨vs, va, rfl, R4, b4⟩
  obtain ⟨z5, k5, rfl⟩ := CellsC.shape R4.sure
  obtain ⟨y5, j5, rfl⟩ := CellsC.shape R4.acts
  obtain ⟨n5, hn5⟩ : ∃ q, (s.acts.drop cl).length = q := ⟨_, rfl⟩
  dsimp only at R4 ⊢
  rw [hn5] at R4 ⊢
  clear hn5
  have HN4 : Hid (NmC (fun k => S k ∨ (w3.heap.size ≤ k ∧ k < w4.heap.size)) w4 (.slice z5 d.length k5) d) := Lib.hid R4.sure
  have F4 := Lib.hid (FD.out.call b4)
  have HZ3 := Lib.hid FD.out.lt
  have HZ4 := Lib.hid b4.size
  clear b4 R4 HFL FD
  obtain ⟨q0, q1, q2, q3, q4, q5, q6⟩ := F4.out.cells
  have fq := F4.out.free
  go_upto_region 2 with fail
  obtain ⟨w5, hW⟩ : ∃ x, ((((((w4.setCell ⟨w.heap.size, 0, none⟩ (.slice af s.files.length cf)).setCell ⟨w.heap.size, 1, none⟩ (.slice an s.now.length cn)).setCell ⟨w.heap.size, 2, none⟩ (.slice z5 d.length k5)).setCell ⟨w.heap.size, 3, none⟩ (.slice y5 n5 j5)).setCell ⟨w.heap.size, 4, none⟩ (.int .i64 (s.room : Int))).setCell ⟨w.heap.size, 5, none⟩ (.int .i64 (s.steps : Int))).setCell ⟨w.heap.size, 6, none⟩ (.int .i64 (lim s)) = x := ⟨_, rfl⟩
  rw [hW]
  have ht := F4.out.put hW
  have F5 := Lib.hid ht.1
  have P5 := Lib.hid ht.2
  clear hW ht q0 q1 q2 q3 q4 q5 q6 fq
  obtain ⟨_, _, _, e3, _, _, _⟩ := F5.out.cells
  have fq := F5.out.free
  go_upto_region 3 with fail
  have ht := F5.out.one 3 (.slice none 0 0) (vf' := .slice af s.files.length cf) (vn' := .slice an s.now.length cn) (vs' := .slice z5 d.length k5) (va' := .slice none 0 0) (room' := (s.room : Int)) (steps' := (s.steps : Int)) (l' := lim s) rfl
  have F6 := Lib.hid ht.1
  have P6 := Lib.hid ht.2
  clear ht e3 fq
  generalize w5.setCell ⟨w.heap.size, 3, none⟩ (.slice none 0 0) = w6 at *
  obtain ⟨_, e1, e2, _, _, _, _⟩ := F6.out.cells
  have fq := F6.out.free
  go_upto_region 4 with fail
  have ht := F6.out.one 1 (.slice z5 d.length k5) (vf' := .slice af s.files.length cf) (vn' := .slice z5 d.length k5) (vs' := .slice z5 d.length k5) (va' := .slice none 0 0) (room' := (s.room : Int)) (steps' := (s.steps : Int)) (l' := lim s) rfl
  have F7 := Lib.hid ht.1
  have P7 := Lib.hid ht.2
  clear ht e1 e2 fq
  generalize w6.setCell ⟨w.heap.size, 1, none⟩ (.slice z5 d.length k5) = w7 at *
  have HN7 : Hid (NmC (fun k => S k ∨ (w.heap.size + 2 ≤ k ∧ k < w7.heap.size)) w7 (.slice z5 d.length k5) d) := Lib.hid (HN4.out.kept (fun q hq => by
    have h1 := P5.out.size
    have h2 := P6.out.size
    have h3 := P7.out.size
    have h4 := HZ3.out
    have h5 := HZ4.out
    have hne : q ≠ w.heap.size := by
      rcases hq with hq | hq
      · have := HS.out q hq; omega
      · omega
    refine ⟨?_, (P7.out.far q hne).trans ((P6.out.far q hne).trans (P5.out.far q hne))⟩
    rcases hq with hq | hq
    · exact Or.inl hq
    · exact Or.inr ⟨by omega, by omega⟩))
  have hfl : s.files.length ≤ 4194304 := by have h1 := HB.out.fl; have h2 := HB.out.st; omega
  clear F4 F5 F6 P5 P6 P7 HZ3 HZ4 HN4
  go_wp2_with fail
  go_loopw [7] (fun i wr => ∃ k : Nat, k ≤ s.files.length ∧ i = .int .i64 (k : Int) ∧ ∃ a c, Hid (Fr w wr (.slice a s.files.length c) (.slice z5 d.length k5) (.slice z5 d.length k5) (.slice none 0 0) (s.room : Int) (s.steps : Int) (lim s)) ∧ Hid (CellsC (fun q => S q ∨ (w.heap.size + 2 ≤ q ∧ q < wr.heap.size)) wr (.slice a s.files.length c) s.files.length 2 (fiV (mixF cb s.files k))) ∧ Hid (NmC (fun q => S q ∨ (w.heap.size + 2 ≤ q ∧ q < wr.heap.size)) wr (.slice z5 d.length k5) d)) (fun i _ => s.files.length - (intOf i).toNat)
  case atStart =>
    refine ⟨0, Nat.zero_le _, rfl, af, cf, F7, Lib.hid ?_, HN7⟩
    rw [mixF_zero]
    exact HH.out.files.kept (fun k hk => ⟨Or.inl hk, F7.out.below.block k (HS.out k hk)⟩)
  case round =>
    obtain ⟨k, hk, rfl, a2, c2, hF, hC, hN⟩ := hrel
    by_cases hlt : k < s.files.length
    · obtain ⟨g2, o2, rfl, hSg, _, _, hat⟩ := CellsC.at hC.out (by omega)
      have hkm : k < (mixF cb s.files k).length := by rw [mixF_len]; exact hlt
      have hc := fiV_at hkm
      rw [mixF_at cb hlt] at hc
      have c0 : wr.cell? ⟨g2, o2 + k * 2, none⟩ = some (.string ⟨(s.files.getD k noFi).data.toArray⟩) := hat _ _ hc.1
      have c1 : wr.cell? ⟨g2, o2 + k * 2 + 1, none⟩ = some (.int .i64 ((s.files.getD k noFi).dur : Int)) := hat _ _ hc.2
      have hok := HB.out.ok.dat _ (getD_mem hlt)
      have HCT : Hid (cutF cb (s.files.getD k noFi) = cutF cb ⟨(s.files.getD k noFi).data, (s.files.getD k noFi).dur⟩) := Lib.hid rfl
      obtain ⟨t, ht⟩ : ∃ q, (s.files.getD k noFi).data = q := ⟨_, rfl⟩
      obtain ⟨u, hu⟩ : ∃ q, (s.files.getD k noFi).dur = q := ⟨_, rfl⟩
      rw [ht, hu] at hok HCT
      rw [ht] at c0
      rw [hu] at c1
      clear hat hc hSg ht hu
      obtain ⟨e0, _, _, _, _, _, _⟩ := hF.out.cells
      go_upto_region 8 with fail
      obtain ⟨m, hm⟩ : ∃ m : Nat, t.length = u + m := ⟨t.length - u, by omega⟩
      have hms : t.length - u = m := by omega
      have hcle := clampI_le cb m
      have HCL := Lib.hid (fun (W : World) => rclamp_any cb m W)
      have HCT2 : Hid (cutF cb (s.files.getD k noFi) = ⟨t.take (u + clampI cb m), u + clampI cb m⟩) := Lib.hid (by rw [HCT.out]; unfold cutF; dsimp only; rw [hms])
      obtain ⟨c3, hc3⟩ : ∃ q, clampI cb m = q := ⟨_, rfl⟩
      rw [hc3] at HCL HCT2 hcle
      obtain ⟨nn, hnn⟩ : ∃ q, u + c3 = q := ⟨_, rfl⟩
      rw [hnn] at HCT2
      have hwm : IntKind.i64.wrap ((t.length : Int) - (u : Int)) = (m : Int) := by rw [show (t.length : Int) - (u : Int) = (m : Int) by omega]; exact IntWalk.i64_in _ (by omega)
      have hwn : IntKind.i64.wrap ((u : Int) + (c3 : Int)) = (nn : Int) := by rw [show (u : Int) + (c3 : Int) = (nn : Int) by omega]; exact IntWalk.i64_in _ (by omega)
      have hnt : nn ≤ t.length := by omega
      have hsl := str_to t nn hnt
      have HNT := Lib.hid hnt
      clear hms hcle hc3 hnn HCT hm hok c0 c1 e0 hnt
      have HZr := Lib.hid hF.out.lt
      have hbx := new_five wr #[.string ⟨t.toArray⟩, .int .i64 (u : Int)] 74
      have F8 := Lib.hid (hF.out.call ((Below.refl wr.heap.size wr).alloc (Nat.le_refl _) (.cells #[.string ⟨t.toArray⟩, .int .i64 (u : Int)] 74)))
      have K8 : Hid (∀ q : Nat, q < wr.heap.size → (wr.alloc (.cells #[.string ⟨t.toArray⟩, .int .i64 (u : Int)] 74)).heap[q]? = wr.heap[q]?) := Lib.hid (fun q hq => Below.heap_alloc wr _ q hq)
      have HZ8 : Hid ((wr.alloc (.cells #[.string ⟨t.toArray⟩, .int .i64 (u : Int)] 74)).heap.size = wr.heap.size + 1) := Lib.hid (by simp)
      generalize wr.alloc (.cells #[.string ⟨t.toArray⟩, .int .i64 (u : Int)] 74) = w8 at *
      have HBX := Lib.hid hbx
      clear hbx
      have c0 : w8.cell? ⟨wr.heap.size, 0, none⟩ = some (.string ⟨t.toArray⟩) := (cell_of_row _ _ _ _ _ _ HBX.out).trans rfl
      have c1 : w8.cell? ⟨wr.heap.size, 1, none⟩ = some (.int .i64 (u : Int)) := (cell_of_row _ _ _ _ _ _ HBX.out).trans rfl
      go_quiet ((go_at_call 53; exact Calls.quiet_of_same (HCL.out _)))
      have hwd : (w8.drewN nq).drewN 1 = (w8.drewN nq).drew := rfl
      have F9 := Lib.hid ((F8.out.drew nq).drew 1)
      rw [hwd] at F9
      have K9 : Hid (∀ q : Nat, (w8.drewN nq).drew.heap[q]? = w8.heap[q]?) := Lib.hid (fun q => rfl)
      have Z9 : Hid ((w8.drewN nq).drew.heap.size = w8.heap.size) := Lib.hid rfl
      clear hwd hwm hwn c0 c1 HCL
      generalize w8.drewN nq = w9 at *
      have KS : Hid (∀ q : Nat, (S q ∨ (w.heap.size + 2 ≤ q ∧ q < wr.heap.size)) → (S q ∨ (w.heap.size + 2 ≤ q ∧ q < wr.heap.size)) ∧ w9.drew.heap[q]? = wr.heap[q]?) := Lib.hid (fun q hq => by
        have hlt : q < wr.heap.size := by
          rcases hq with hq | hq
          · exact Nat.lt_of_lt_of_le (HS.out q hq) hF.out.below.size
          · exact hq.2
        exact ⟨hq, (K9.out q).trans (K8.out q hlt)⟩)
      have HFL := Lib.hid (rput_any (fun q => S q ∨ (w.heap.size + 2 ≤ q ∧ q < wr.heap.size)) (some ⟨g2, o2, none⟩) z5 z5 none c2 k5 k5 0 (s.room : Int) (s.steps : Int) (lim s) { s with files := mixF cb s.files k, now := d, sure := d, acts := [] } k ⟨t.take nn, nn⟩ w9.drew ⟨by
          have h := hC.out.kept KS.out
          show CellsC _ _ (.slice _ (mixF cb s.files k).length c2) (mixF cb s.files k).length 2 _
          rw [mixF_len]; exact h, hN.out.kept KS.out, hN.out.kept KS.out, CellsC.nil _ _ _ _ _⟩ (fun q hq => by
        have h1 := Z9.out
        have h2 := HZ8.out
        rcases hq with hq | hq
        · exact Nat.lt_of_lt_of_le (HS.out q hq) F9.out.below.size
        · omega) hkm (by show (mixF cb s.files k).length ≤ _; rw [mixF_len]; omega))
      unfold fsV at HFL
      dsimp only [List.length] at HFL
      rw [mixF_len] at HFL
      have c0 : w9.drew.cell? ⟨wr.heap.size, 0, none⟩ = some (.string ⟨t.toArray⟩) := (cell_of_row _ _ _ _ _ _ ((K9.out _).trans HBX.out)).trans rfl
      have hZ9 := Z9.out
      have hZ8 := HZ8.out
      have hZr := HZr.out
      obtain ⟨q0, q1, q2, q3, q4, q5, q6⟩ := F9.out.cells
      have fq := F9.out.free
      go_upto_region 9 with fail
      go_still_tail 8, (by kernel_rfl)
      change wpList _ _ _ _ _ w9.drew
      generalize w9.drew = w10 at *
      clear c0 q0 q1 q2 q3 q4 q5 q6 fq hsl
      go_wp2_with fail
      refine HFL.out.mono ?_
      rintro e w11 ⟨vf, rfl, R11, b11⟩
      obtain ⟨z6, k6, rfl⟩ := CellsC.shape R11.files
      have hl6 : ((mixF cb s.files k).set k ⟨t.take nn, nn⟩).length = s.files.length := by rw [List.length_set, mixF_len]
      have HC11 := Lib.hid R11.files
      dsimp only at HC11 ⊢
      rw [← HCT2.out, mixF_set cb hlt, mixF_len] at HC11
      rw [hl6]
      clear hl6
      have F11 := Lib.hid (F9.out.call b11)
      have B11 := Lib.hid b11
      clear b11 R11 HFL
      obtain ⟨q0, q1, q2, q3, q4, q5, q6⟩ := F11.out.cells
      have fq := F11.out.free
      go_upto_region 6 with fail
      obtain ⟨w12, hW⟩ : ∃ x, ((((((w11.setCell ⟨w.heap.size, 0, none⟩ (.slice z6 s.files.length k6)).setCell ⟨w.heap.size, 1, none⟩ (.slice z5 d.length k5)).setCell ⟨w.heap.size, 2, none⟩ (.slice z5 d.length k5)).setCell ⟨w.heap.size, 3, none⟩ (.slice none 0 0)).setCell ⟨w.heap.size, 4, none⟩ (.int .i64 (s.room : Int))).setCell ⟨w.heap.size, 5, none⟩ (.int .i64 (s.steps : Int))).setCell ⟨w.heap.size, 6, none⟩ (.int .i64 (lim s)) = x := ⟨_, rfl⟩
      rw [hW]
      have ht := F11.out.put hW
      have F12 := Lib.hid ht.1
      have P12 := Lib.hid ht.2
      clear hW ht q0 q1 q2 q3 q4 q5 q6 fq
      go_wp2_with fail
      have hzp := P12.out.size
      have hzb := B11.out.size
      refine ⟨⟨k + 1, by omega, by go_num, z6, k6, F12, Lib.hid ?_, Lib.hid ?_⟩, by simp [intOf]; omega⟩
      · refine HC11.out.kept (fun q hq => ?_)
        have hne : q ≠ w.heap.size := by
          rcases hq with (hq | hq) | hq
          · have := HS.out q hq; omega
          · omega
          · omega
        refine ⟨?_, P12.out.far q hne⟩
        rcases hq with (hq | hq) | hq
        · exact Or.inl hq
        · exact Or.inr ⟨hq.1, by omega⟩
        · exact Or.inr ⟨by omega, by omega⟩
      · refine hN.out.kept (fun q hq => ?_)
        have hks := (KS.out q hq).2
        have hq2 : q ≠ w.heap.size ∧ q < w10.heap.size := by
          rcases hq with hq | hq
          · have h1 := HS.out q hq
            have h2 := hF.out.below.size
            exact ⟨by omega, by omega⟩
          · exact ⟨by omega, by omega⟩
        refine ⟨?_, (P12.out.far q hq2.1).trans ((B11.out.block q hq2.2).trans hks)⟩
        rcases hq with hq | hq
        · exact Or.inl hq
        · exact Or.inr ⟨hq.1, by omega⟩
    · have hkn : k = s.files.length := by omega
      subst hkn
      obtain ⟨_, _, _, _, _, _, e6⟩ := hF.out.cells
      obtain ⟨e0, _, _, _, _, _, _⟩ := hF.out.cells
      have fq := hF.out.free
      go_upto_region 11 with fail
      have ht := hF.out.one 6 (.int .i64 (-1)) (vf' := .slice a2 s.files.length c2) (vn' := .slice z5 d.length k5) (vs' := .slice z5 d.length k5) (va' := .slice none 0 0) (room' := (s.room : Int)) (steps' := (s.steps : Int)) (l' := -1) rfl
      have F9 := Lib.hid ht.1
      have P9 := Lib.hid ht.2
      have HZr := Lib.hid hF.out.lt
      clear ht e6 e0 fq
      generalize wr.setCell ⟨w.heap.size, 6, none⟩ (.int .i64 (-1)) = w9 at *
      obtain ⟨q0, q1, q2, q3, q4, q5, q6⟩ := F9.out.cells
      obtain ⟨r0, r1, r2, r3, r4, r5, r6⟩ := F9.out.rcells
      have fr := F9.out.rfree
      go_wp2_with fail
      obtain ⟨W, hW⟩ : ∃ x, ((((((w9.setCell ⟨w.heap.size + 1, 0, none⟩ (.slice a2 s.files.length c2)).setCell ⟨w.heap.size + 1, 1, none⟩ (.slice z5 d.length k5)).setCell ⟨w.heap.size + 1, 2, none⟩ (.slice z5 d.length k5)).setCell ⟨w.heap.size + 1, 3, none⟩ (.slice none 0 0)).setCell ⟨w.heap.size + 1, 4, none⟩ (.int .i64 (s.room : Int))).setCell ⟨w.heap.size + 1, 5, none⟩ (.int .i64 (s.steps : Int))).setCell ⟨w.heap.size + 1, 6, none⟩ (.int .i64 (-1)) = x := ⟨_, rfl⟩
      rw [hW]
      obtain ⟨hX, hP, hBe⟩ := F9.out.fin hW
      have PW := Lib.hid hP
      have BW := Lib.hid hBe
      clear hW hP hBe q0 q1 q2 q3 q4 q5 q6 r0 r1 r2 r3 r4 r5 r6 fr
      obtain ⟨q0, q1, q2, q3, q4, q5, q6⟩ := hX.cells
      clear hX
      refine bodyPost_ret (v := .agg #[.slice a2 s.files.length c2, .slice z5 d.length k5, .slice z5 d.length k5, .slice none 0 0, .int .i64 (s.room : Int), .int .i64 (s.steps : Int), .int .i64 (-1)]) (by simp [results, Tryz.results34, go_sem, q0, q1, q2, q3, q4, q5, q6]) rfl ⟨_, rfl, ⟨⟨_, _, _, _, rfl, ?_⟩⟩, BW.out⟩
      have hz := PW.out.size
      have hz9 := P9.out.size
      have hlt9 := HZr.out
      have hK : ∀ q, (S q ∨ (w.heap.size + 2 ≤ q ∧ q < wr.heap.size)) → (S q ∨ (w.heap.size ≤ q ∧ q < W.heap.size)) ∧ W.heap[q]? = wr.heap[q]? := fun q hq => by
        rcases hq with hq | hq
        · have h1 := HS.out q hq
          exact ⟨Or.inl hq, (PW.out.far q (by omega)).trans (P9.out.far q (by omega))⟩
        · exact ⟨Or.inr ⟨by omega, by omega⟩, (PW.out.far q (by omega)).trans (P9.out.far q (by omega))⟩
      have hC2 := hC.out
      rw [mixF_all] at hC2
      have ed := HDE.out
      subst ed
      refine ⟨?_, hN.out.kept hK, hN.out.kept hK, CellsC.nil _ _ _ _ _⟩
      have h := hC2.kept hK
      show CellsC _ _ _ (s.files.map (cutF cb)).length 2 (fiV (s.files.map (cutF cb)))
      rw [List.length_map]
      exact h
end Go.Proofs.YtjefcalndfcmdaaGreatDoor
