/- The laws' step, kind by kind. -/
import Derived.Test.YtjefcalndfcmdaaGreatDoorVgX
namespace Go.Proofs.YtjefcalndfcmdaaGreatDoor
open Go.RowKit Go.Maps
attribute [local go_sem ↓] Go.wp_at_zero Go.wp_at_succ
set_option maxRecDepth 100000 in
set_option maxHeartbeats 4000000 in
theorem step_0 {w0 w : World} {F : Nat → Prop} {bf : Nat} {s : Fs} (g : FsG w0 F w bf s) (hB : Bd s) (hE : PEnv w0) (S : Nat → Prop) (hSF : ∀ k, S k → F k) (v : Value) (h : FsV S w v s) (x y : Nm) (vd : Value) (d : Nm) (n m : Int) (hd : BytesC F w vd d) (ho : OpOk ⟨0, x, y, d, n, m⟩) :
    Calls Tryz.prog 11 #[.pointer (some ⟨bf, 0, none⟩), v, .agg (opRow ⟨0, x, y, d, n, m⟩ vd)] w (StP w0 F S w bf (opS s ⟨0, x, y, d, n, m⟩).1) := by
  have e1 : opS s ⟨0, x, y, d, n, m⟩ = createS s x := rfl
  rw [e1]
  clear e1
  obtain ⟨c, hc⟩ : ∃ q, (createS s x).2 = q := ⟨_, rfl⟩
  obtain ⟨r, hr⟩ : ∃ q, (createS s x).1 = q := ⟨_, rfl⟩
  rw [hr]
  obtain ⟨af, an, az, aa, cf, cn, cs, ca, rfl, hR⟩ := h.shape
  have HT := Lib.hid (Ss.make g (.slice af s.files.length cf) (.slice an s.now.length cn) (.slice az s.sure.length cs) (.slice aa s.acts.length ca) (s.room : Int) (s.steps : Int) (lim s) (opRow ⟨0, x, y, d, n, m⟩ vd))
  have HV := Lib.hid h
  have HSF := Lib.hid hSF
  have HB := Lib.hid hB
  have HD := Lib.hid hd
  have HE := Lib.hid hE
  have HO := Lib.hid ho
  clear g h hB hd hR hE ho hSF
  unfold fsV zrow at HT
  unfold opRow at HT ⊢
  unfold fsV
  go_enter Tryz.func11, Tryz.ntmps11
  go_upto_region 1 with fail
  obtain ⟨w2, hw2⟩ : ∃ q, ((w.alloc (.cells #[.slice af s.files.length cf, .slice an s.now.length cn, .slice az s.sure.length cs, .slice aa s.acts.length ca, .int .i64 (s.room : Int), .int .i64 (s.steps : Int), .int .i64 (lim s)] 33)).alloc (.cells #[.int .i64 0, .string ⟨x.toArray⟩, .string ⟨y.toArray⟩, vd, .int .i64 n, .int .i64 m] 37)).alloc (.cells #[.slice none 0 0, .slice none 0 0, .slice none 0 0, .slice none 0 0, .int .i64 0, .int .i64 0, .int .i64 0] 33) = q := ⟨_, rfl⟩
  rw [hw2] at HT ⊢
  clear hw2
  obtain ⟨o0, o1, o2, o3, o4, o5⟩ := HT.out.ocells (d := d)
  have HP := Lib.hid (g_create HT.out.g (by have h3 := HB.out.st; omega) HE.out x (by have h1 := HO.out.nm; dsimp only at h1; omega))
  rw [hc, hr] at HP
  go_wp2_with fail
  refine HP.out.mono ?_
  rintro e w3 ⟨rfl, g3, hz3, hk3⟩
  have T3 := Lib.hid (HT.out.prog g3 hz3 hk3)
  clear g3 hz3 hk3 HP HT o0 o1 o2 o3 o4 o5
  have HRF := Lib.hid (rCreate_any S _ s x w3 (HV.out.kept (fun k hk => ⟨hk, T3.out.far k (HSF.out k hk)⟩)) (fun k hk => by have h1 := T3.out.fl k (HSF.out k hk); have h2 := T3.out.sz; omega) HB.out (by have h1 := HO.out.nm; dsimp only at h1; omega))
  rw [hc, hr] at HRF
  clear hc hr
  unfold fsV at HRF
  obtain ⟨o0, o1, o2, o3, o4, o5⟩ := T3.out.ocells (d := d)
  obtain ⟨q0, q1, q2, q3, q4, q5, q6⟩ := T3.out.box.cells
  go_wp2_with fail
  refine HRF.out.mono ?_
  rintro e w4 ⟨v4, rfl, V4, b4⟩
  obtain ⟨af4, an4, az4, aa4, cf4, cn4, cs4, ca4, rfl, R4⟩ := V4.shape
  have HV4 := Lib.hid R4
  have T4 := Lib.hid (T3.out.ref b4)
  clear R4 V4 b4 HRF o0 o1 o2 o3 o4 o5 q0 q1 q2 q3 q4 q5 q6
  unfold fsV
  obtain ⟨q0, q1, q2, q3, q4, q5, q6⟩ := T4.out.box.cells
  have fq := T4.out.box.free
  go_upto_region 30 with fail
  obtain ⟨w5, hW⟩ : ∃ qq, ((((((w4.setCell ⟨w.heap.size, 0, none⟩ (.slice af4 r.files.length cf4)).setCell ⟨w.heap.size, 1, none⟩ (.slice an4 r.now.length cn4)).setCell ⟨w.heap.size, 2, none⟩ (.slice az4 r.sure.length cs4)).setCell ⟨w.heap.size, 3, none⟩ (.slice aa4 r.acts.length ca4)).setCell ⟨w.heap.size, 4, none⟩ (.int .i64 (r.room : Int))).setCell ⟨w.heap.size, 5, none⟩ (.int .i64 (r.steps : Int))).setCell ⟨w.heap.size, 6, none⟩ (.int .i64 (lim r)) = qq := ⟨_, rfl⟩
  rw [hW]
  have ht := T4.out.put hW
  have T5 := Lib.hid ht.1
  have P5 := Lib.hid ht.2
  clear hW ht q0 q1 q2 q3 q4 q5 q6 fq T4
  obtain ⟨q0, q1, q2, q3, q4, q5, q6⟩ := T5.out.box.cells
  obtain ⟨r0, r1, r2, r3, r4, r5, r6⟩ := T5.out.rcells
  have fr : ∀ q : Nat, w5.frozen? ⟨w.heap.size + 1 + 1, q, none⟩ = false := frozen_box T5.out.res
  go_wp2_with fail
  obtain ⟨W, hW⟩ : ∃ qq, ((((((w5.setCell ⟨w.heap.size + 1 + 1, 0, none⟩ (.slice af4 r.files.length cf4)).setCell ⟨w.heap.size + 1 + 1, 1, none⟩ (.slice an4 r.now.length cn4)).setCell ⟨w.heap.size + 1 + 1, 2, none⟩ (.slice az4 r.sure.length cs4)).setCell ⟨w.heap.size + 1 + 1, 3, none⟩ (.slice aa4 r.acts.length ca4)).setCell ⟨w.heap.size + 1 + 1, 4, none⟩ (.int .i64 (r.room : Int))).setCell ⟨w.heap.size + 1 + 1, 5, none⟩ (.int .i64 (r.steps : Int))).setCell ⟨w.heap.size + 1 + 1, 6, none⟩ (.int .i64 (lim r)) = qq := ⟨_, rfl⟩
  rw [hW]
  have hfin := T5.out.fin hW
  have HX := Lib.hid hfin.1
  have PW := Lib.hid hfin.2.1
  have GW := Lib.hid hfin.2.2.1
  have FW := Lib.hid hfin.2.2.2
  clear hW hfin q0 q1 q2 q3 q4 q5 q6 r0 r1 r2 r3 r4 r5 r6 fr
  obtain ⟨q0, q1, q2, q3, q4, q5, q6⟩ := HX.out.cells
  clear HX
  refine bodyPost_ret (v := .tuple #[.agg #[.slice af4 r.files.length cf4, .slice an4 r.now.length cn4, .slice az4 r.sure.length cs4, .slice aa4 r.acts.length ca4, .int .i64 (r.room : Int), .int .i64 (r.steps : Int), .int .i64 (lim r)], .bool true]) (by simp [results, Tryz.results11, go_sem, q0, q1, q2, q3, q4, q5, q6]) rfl ⟨_, _, rfl, ?_, GW.out, ?_, ?_, FW.out⟩
  · exact fun k hk => Or.inl (Or.inl hk)
  · have h4 := HV4.out
    have hz3 := T3.out.sz
    refine FsV.kept (s := r) ⟨_, _, _, _, rfl, h4⟩ (fun q hq => ?_)
    rcases hq with hq | hq
    · have hl := T3.out.fl q (HSF.out q hq)
      exact ⟨⟨Or.inl (Or.inl (HSF.out q hq)), Or.inl hq⟩, (PW.out.far (by omega)).trans (P5.out.far (by omega))⟩
    · exact ⟨⟨Or.inr hq, Or.inr (by omega)⟩, (PW.out.far (by omega)).trans (P5.out.far (by omega))⟩
  · have h1 := PW.out.size
    have h2 := T5.out.sz
    omega
set_option maxRecDepth 100000 in
set_option maxHeartbeats 4000000 in
theorem step_2 {w0 w : World} {F : Nat → Prop} {bf : Nat} {s : Fs} (g : FsG w0 F w bf s) (hB : Bd s) (hE : PEnv w0) (S : Nat → Prop) (hSF : ∀ k, S k → F k) (v : Value) (h : FsV S w v s) (x y : Nm) (vd : Value) (d : Nm) (n m : Int) (hd : BytesC F w vd d) (ho : OpOk ⟨2, x, y, d, n, m⟩) :
    Calls Tryz.prog 11 #[.pointer (some ⟨bf, 0, none⟩), v, .agg (opRow ⟨2, x, y, d, n, m⟩ vd)] w (StP w0 F S w bf (opS s ⟨2, x, y, d, n, m⟩).1) := by
  have e1 : opS s ⟨2, x, y, d, n, m⟩ = cutS s x n := rfl
  rw [e1]
  clear e1
  obtain ⟨c, hc⟩ : ∃ q, (cutS s x n).2 = q := ⟨_, rfl⟩
  obtain ⟨r, hr⟩ : ∃ q, (cutS s x n).1 = q := ⟨_, rfl⟩
  rw [hr]
  obtain ⟨af, an, az, aa, cf, cn, cs, ca, rfl, hR⟩ := h.shape
  have HT := Lib.hid (Ss.make g (.slice af s.files.length cf) (.slice an s.now.length cn) (.slice az s.sure.length cs) (.slice aa s.acts.length ca) (s.room : Int) (s.steps : Int) (lim s) (opRow ⟨2, x, y, d, n, m⟩ vd))
  have HV := Lib.hid h
  have HSF := Lib.hid hSF
  have HB := Lib.hid hB
  have HD := Lib.hid hd
  have HE := Lib.hid hE
  have HO := Lib.hid ho
  clear g h hB hd hR hE ho hSF
  unfold fsV zrow at HT
  unfold opRow at HT ⊢
  unfold fsV
  go_enter Tryz.func11, Tryz.ntmps11
  go_upto_region 1 with fail
  obtain ⟨w2, hw2⟩ : ∃ q, ((w.alloc (.cells #[.slice af s.files.length cf, .slice an s.now.length cn, .slice az s.sure.length cs, .slice aa s.acts.length ca, .int .i64 (s.room : Int), .int .i64 (s.steps : Int), .int .i64 (lim s)] 33)).alloc (.cells #[.int .i64 2, .string ⟨x.toArray⟩, .string ⟨y.toArray⟩, vd, .int .i64 n, .int .i64 m] 37)).alloc (.cells #[.slice none 0 0, .slice none 0 0, .slice none 0 0, .slice none 0 0, .int .i64 0, .int .i64 0, .int .i64 0] 33) = q := ⟨_, rfl⟩
  rw [hw2] at HT ⊢
  clear hw2
  obtain ⟨o0, o1, o2, o3, o4, o5⟩ := HT.out.ocells (d := d)
  have HP := Lib.hid (g_cut HT.out.g (by have h3 := HB.out.st; omega) x (by have h1 := HO.out.nm; dsimp only at h1; omega) n)
  rw [hc, hr] at HP
  go_wp2_with fail
  refine HP.out.mono ?_
  rintro e w3 ⟨rfl, g3, hz3, hk3⟩
  have T3 := Lib.hid (HT.out.prog g3 hz3 hk3)
  clear g3 hz3 hk3 HP HT o0 o1 o2 o3 o4 o5
  have HRF := Lib.hid (rCut_any S _ s x n w3 (HV.out.kept (fun k hk => ⟨hk, T3.out.far k (HSF.out k hk)⟩)) (fun k hk => by have h1 := T3.out.fl k (HSF.out k hk); have h2 := T3.out.sz; omega) HB.out)
  rw [hc, hr] at HRF
  clear hc hr
  unfold fsV at HRF
  obtain ⟨o0, o1, o2, o3, o4, o5⟩ := T3.out.ocells (d := d)
  obtain ⟨q0, q1, q2, q3, q4, q5, q6⟩ := T3.out.box.cells
  go_wp2_with fail
  refine HRF.out.mono ?_
  rintro e w4 ⟨v4, rfl, V4, b4⟩
  obtain ⟨af4, an4, az4, aa4, cf4, cn4, cs4, ca4, rfl, R4⟩ := V4.shape
  have HV4 := Lib.hid R4
  have T4 := Lib.hid (T3.out.ref b4)
  clear R4 V4 b4 HRF o0 o1 o2 o3 o4 o5 q0 q1 q2 q3 q4 q5 q6
  unfold fsV
  obtain ⟨q0, q1, q2, q3, q4, q5, q6⟩ := T4.out.box.cells
  have fq := T4.out.box.free
  go_upto_region 30 with fail
  obtain ⟨w5, hW⟩ : ∃ qq, ((((((w4.setCell ⟨w.heap.size, 0, none⟩ (.slice af4 r.files.length cf4)).setCell ⟨w.heap.size, 1, none⟩ (.slice an4 r.now.length cn4)).setCell ⟨w.heap.size, 2, none⟩ (.slice az4 r.sure.length cs4)).setCell ⟨w.heap.size, 3, none⟩ (.slice aa4 r.acts.length ca4)).setCell ⟨w.heap.size, 4, none⟩ (.int .i64 (r.room : Int))).setCell ⟨w.heap.size, 5, none⟩ (.int .i64 (r.steps : Int))).setCell ⟨w.heap.size, 6, none⟩ (.int .i64 (lim r)) = qq := ⟨_, rfl⟩
  rw [hW]
  have ht := T4.out.put hW
  have T5 := Lib.hid ht.1
  have P5 := Lib.hid ht.2
  clear hW ht q0 q1 q2 q3 q4 q5 q6 fq T4
  obtain ⟨q0, q1, q2, q3, q4, q5, q6⟩ := T5.out.box.cells
  obtain ⟨r0, r1, r2, r3, r4, r5, r6⟩ := T5.out.rcells
  have fr : ∀ q : Nat, w5.frozen? ⟨w.heap.size + 1 + 1, q, none⟩ = false := frozen_box T5.out.res
  go_wp2_with fail
  obtain ⟨W, hW⟩ : ∃ qq, ((((((w5.setCell ⟨w.heap.size + 1 + 1, 0, none⟩ (.slice af4 r.files.length cf4)).setCell ⟨w.heap.size + 1 + 1, 1, none⟩ (.slice an4 r.now.length cn4)).setCell ⟨w.heap.size + 1 + 1, 2, none⟩ (.slice az4 r.sure.length cs4)).setCell ⟨w.heap.size + 1 + 1, 3, none⟩ (.slice aa4 r.acts.length ca4)).setCell ⟨w.heap.size + 1 + 1, 4, none⟩ (.int .i64 (r.room : Int))).setCell ⟨w.heap.size + 1 + 1, 5, none⟩ (.int .i64 (r.steps : Int))).setCell ⟨w.heap.size + 1 + 1, 6, none⟩ (.int .i64 (lim r)) = qq := ⟨_, rfl⟩
  rw [hW]
  have hfin := T5.out.fin hW
  have HX := Lib.hid hfin.1
  have PW := Lib.hid hfin.2.1
  have GW := Lib.hid hfin.2.2.1
  have FW := Lib.hid hfin.2.2.2
  clear hW hfin q0 q1 q2 q3 q4 q5 q6 r0 r1 r2 r3 r4 r5 r6 fr
  obtain ⟨q0, q1, q2, q3, q4, q5, q6⟩ := HX.out.cells
  clear HX
  refine bodyPost_ret (v := .tuple #[.agg #[.slice af4 r.files.length cf4, .slice an4 r.now.length cn4, .slice az4 r.sure.length cs4, .slice aa4 r.acts.length ca4, .int .i64 (r.room : Int), .int .i64 (r.steps : Int), .int .i64 (lim r)], .bool true]) (by simp [results, Tryz.results11, go_sem, q0, q1, q2, q3, q4, q5, q6]) rfl ⟨_, _, rfl, ?_, GW.out, ?_, ?_, FW.out⟩
  · exact fun k hk => Or.inl (Or.inl hk)
  · have h4 := HV4.out
    have hz3 := T3.out.sz
    refine FsV.kept (s := r) ⟨_, _, _, _, rfl, h4⟩ (fun q hq => ?_)
    rcases hq with hq | hq
    · have hl := T3.out.fl q (HSF.out q hq)
      exact ⟨⟨Or.inl (Or.inl (HSF.out q hq)), Or.inl hq⟩, (PW.out.far (by omega)).trans (P5.out.far (by omega))⟩
    · exact ⟨⟨Or.inr hq, Or.inr (by omega)⟩, (PW.out.far (by omega)).trans (P5.out.far (by omega))⟩
  · have h1 := PW.out.size
    have h2 := T5.out.sz
    omega
set_option maxRecDepth 100000 in
set_option maxHeartbeats 4000000 in
theorem step_3 {w0 w : World} {F : Nat → Prop} {bf : Nat} {s : Fs} (g : FsG w0 F w bf s) (hB : Bd s) (hE : PEnv w0) (S : Nat → Prop) (hSF : ∀ k, S k → F k) (v : Value) (h : FsV S w v s) (x y : Nm) (vd : Value) (d : Nm) (n m : Int) (hd : BytesC F w vd d) (ho : OpOk ⟨3, x, y, d, n, m⟩) :
    Calls Tryz.prog 11 #[.pointer (some ⟨bf, 0, none⟩), v, .agg (opRow ⟨3, x, y, d, n, m⟩ vd)] w (StP w0 F S w bf (opS s ⟨3, x, y, d, n, m⟩).1) := by
  have e1 : opS s ⟨3, x, y, d, n, m⟩ = syncS s x := rfl
  rw [e1]
  clear e1
  obtain ⟨c, hc⟩ : ∃ q, (syncS s x).2 = q := ⟨_, rfl⟩
  obtain ⟨r, hr⟩ : ∃ q, (syncS s x).1 = q := ⟨_, rfl⟩
  rw [hr]
  obtain ⟨af, an, az, aa, cf, cn, cs, ca, rfl, hR⟩ := h.shape
  have HT := Lib.hid (Ss.make g (.slice af s.files.length cf) (.slice an s.now.length cn) (.slice az s.sure.length cs) (.slice aa s.acts.length ca) (s.room : Int) (s.steps : Int) (lim s) (opRow ⟨3, x, y, d, n, m⟩ vd))
  have HV := Lib.hid h
  have HSF := Lib.hid hSF
  have HB := Lib.hid hB
  have HD := Lib.hid hd
  have HE := Lib.hid hE
  have HO := Lib.hid ho
  clear g h hB hd hR hE ho hSF
  unfold fsV zrow at HT
  unfold opRow at HT ⊢
  unfold fsV
  go_enter Tryz.func11, Tryz.ntmps11
  go_upto_region 1 with fail
  obtain ⟨w2, hw2⟩ : ∃ q, ((w.alloc (.cells #[.slice af s.files.length cf, .slice an s.now.length cn, .slice az s.sure.length cs, .slice aa s.acts.length ca, .int .i64 (s.room : Int), .int .i64 (s.steps : Int), .int .i64 (lim s)] 33)).alloc (.cells #[.int .i64 3, .string ⟨x.toArray⟩, .string ⟨y.toArray⟩, vd, .int .i64 n, .int .i64 m] 37)).alloc (.cells #[.slice none 0 0, .slice none 0 0, .slice none 0 0, .slice none 0 0, .int .i64 0, .int .i64 0, .int .i64 0] 33) = q := ⟨_, rfl⟩
  rw [hw2] at HT ⊢
  clear hw2
  obtain ⟨o0, o1, o2, o3, o4, o5⟩ := HT.out.ocells (d := d)
  have HP := Lib.hid (g_sync HT.out.g (by have h3 := HB.out.st; omega) x (by have h1 := HO.out.nm; dsimp only at h1; omega))
  rw [hc, hr] at HP
  go_wp2_with fail
  refine HP.out.mono ?_
  rintro e w3 ⟨rfl, g3, hz3, hk3⟩
  have T3 := Lib.hid (HT.out.prog g3 hz3 hk3)
  clear g3 hz3 hk3 HP HT o0 o1 o2 o3 o4 o5
  have HRF := Lib.hid (rSync_any S _ s x w3 (HV.out.kept (fun k hk => ⟨hk, T3.out.far k (HSF.out k hk)⟩)) (fun k hk => by have h1 := T3.out.fl k (HSF.out k hk); have h2 := T3.out.sz; omega) HB.out)
  rw [hc, hr] at HRF
  clear hc hr
  unfold fsV at HRF
  obtain ⟨o0, o1, o2, o3, o4, o5⟩ := T3.out.ocells (d := d)
  obtain ⟨q0, q1, q2, q3, q4, q5, q6⟩ := T3.out.box.cells
  go_wp2_with fail
  refine HRF.out.mono ?_
  rintro e w4 ⟨v4, rfl, V4, b4⟩
  obtain ⟨af4, an4, az4, aa4, cf4, cn4, cs4, ca4, rfl, R4⟩ := V4.shape
  have HV4 := Lib.hid R4
  have T4 := Lib.hid (T3.out.ref b4)
  clear R4 V4 b4 HRF o0 o1 o2 o3 o4 o5 q0 q1 q2 q3 q4 q5 q6
  unfold fsV
  obtain ⟨q0, q1, q2, q3, q4, q5, q6⟩ := T4.out.box.cells
  have fq := T4.out.box.free
  go_upto_region 30 with fail
  obtain ⟨w5, hW⟩ : ∃ qq, ((((((w4.setCell ⟨w.heap.size, 0, none⟩ (.slice af4 r.files.length cf4)).setCell ⟨w.heap.size, 1, none⟩ (.slice an4 r.now.length cn4)).setCell ⟨w.heap.size, 2, none⟩ (.slice az4 r.sure.length cs4)).setCell ⟨w.heap.size, 3, none⟩ (.slice aa4 r.acts.length ca4)).setCell ⟨w.heap.size, 4, none⟩ (.int .i64 (r.room : Int))).setCell ⟨w.heap.size, 5, none⟩ (.int .i64 (r.steps : Int))).setCell ⟨w.heap.size, 6, none⟩ (.int .i64 (lim r)) = qq := ⟨_, rfl⟩
  rw [hW]
  have ht := T4.out.put hW
  have T5 := Lib.hid ht.1
  have P5 := Lib.hid ht.2
  clear hW ht q0 q1 q2 q3 q4 q5 q6 fq T4
  obtain ⟨q0, q1, q2, q3, q4, q5, q6⟩ := T5.out.box.cells
  obtain ⟨r0, r1, r2, r3, r4, r5, r6⟩ := T5.out.rcells
  have fr : ∀ q : Nat, w5.frozen? ⟨w.heap.size + 1 + 1, q, none⟩ = false := frozen_box T5.out.res
  go_wp2_with fail
  obtain ⟨W, hW⟩ : ∃ qq, ((((((w5.setCell ⟨w.heap.size + 1 + 1, 0, none⟩ (.slice af4 r.files.length cf4)).setCell ⟨w.heap.size + 1 + 1, 1, none⟩ (.slice an4 r.now.length cn4)).setCell ⟨w.heap.size + 1 + 1, 2, none⟩ (.slice az4 r.sure.length cs4)).setCell ⟨w.heap.size + 1 + 1, 3, none⟩ (.slice aa4 r.acts.length ca4)).setCell ⟨w.heap.size + 1 + 1, 4, none⟩ (.int .i64 (r.room : Int))).setCell ⟨w.heap.size + 1 + 1, 5, none⟩ (.int .i64 (r.steps : Int))).setCell ⟨w.heap.size + 1 + 1, 6, none⟩ (.int .i64 (lim r)) = qq := ⟨_, rfl⟩
  rw [hW]
  have hfin := T5.out.fin hW
  have HX := Lib.hid hfin.1
  have PW := Lib.hid hfin.2.1
  have GW := Lib.hid hfin.2.2.1
  have FW := Lib.hid hfin.2.2.2
  clear hW hfin q0 q1 q2 q3 q4 q5 q6 r0 r1 r2 r3 r4 r5 r6 fr
  obtain ⟨q0, q1, q2, q3, q4, q5, q6⟩ := HX.out.cells
  clear HX
  refine bodyPost_ret (v := .tuple #[.agg #[.slice af4 r.files.length cf4, .slice an4 r.now.length cn4, .slice az4 r.sure.length cs4, .slice aa4 r.acts.length ca4, .int .i64 (r.room : Int), .int .i64 (r.steps : Int), .int .i64 (lim r)], .bool true]) (by simp [results, Tryz.results11, go_sem, q0, q1, q2, q3, q4, q5, q6]) rfl ⟨_, _, rfl, ?_, GW.out, ?_, ?_, FW.out⟩
  · exact fun k hk => Or.inl (Or.inl hk)
  · have h4 := HV4.out
    have hz3 := T3.out.sz
    refine FsV.kept (s := r) ⟨_, _, _, _, rfl, h4⟩ (fun q hq => ?_)
    rcases hq with hq | hq
    · have hl := T3.out.fl q (HSF.out q hq)
      exact ⟨⟨Or.inl (Or.inl (HSF.out q hq)), Or.inl hq⟩, (PW.out.far (by omega)).trans (P5.out.far (by omega))⟩
    · exact ⟨⟨Or.inr hq, Or.inr (by omega)⟩, (PW.out.far (by omega)).trans (P5.out.far (by omega))⟩
  · have h1 := PW.out.size
    have h2 := T5.out.sz
    omega
set_option maxRecDepth 100000 in
set_option maxHeartbeats 4000000 in
theorem step_4 {w0 w : World} {F : Nat → Prop} {bf : Nat} {s : Fs} (g : FsG w0 F w bf s) (hB : Bd s) (hE : PEnv w0) (S : Nat → Prop) (hSF : ∀ k, S k → F k) (v : Value) (h : FsV S w v s) (x y : Nm) (vd : Value) (d : Nm) (n m : Int) (hd : BytesC F w vd d) (ho : OpOk ⟨4, x, y, d, n, m⟩) :
    Calls Tryz.prog 11 #[.pointer (some ⟨bf, 0, none⟩), v, .agg (opRow ⟨4, x, y, d, n, m⟩ vd)] w (StP w0 F S w bf (opS s ⟨4, x, y, d, n, m⟩).1) := by
  have e1 : opS s ⟨4, x, y, d, n, m⟩ = renameS s x y := rfl
  rw [e1]
  clear e1
  obtain ⟨c, hc⟩ : ∃ q, (renameS s x y).2 = q := ⟨_, rfl⟩
  obtain ⟨r, hr⟩ : ∃ q, (renameS s x y).1 = q := ⟨_, rfl⟩
  rw [hr]
  obtain ⟨af, an, az, aa, cf, cn, cs, ca, rfl, hR⟩ := h.shape
  have HT := Lib.hid (Ss.make g (.slice af s.files.length cf) (.slice an s.now.length cn) (.slice az s.sure.length cs) (.slice aa s.acts.length ca) (s.room : Int) (s.steps : Int) (lim s) (opRow ⟨4, x, y, d, n, m⟩ vd))
  have HV := Lib.hid h
  have HSF := Lib.hid hSF
  have HB := Lib.hid hB
  have HD := Lib.hid hd
  have HE := Lib.hid hE
  have HO := Lib.hid ho
  clear g h hB hd hR hE ho hSF
  unfold fsV zrow at HT
  unfold opRow at HT ⊢
  unfold fsV
  go_enter Tryz.func11, Tryz.ntmps11
  go_upto_region 1 with fail
  obtain ⟨w2, hw2⟩ : ∃ q, ((w.alloc (.cells #[.slice af s.files.length cf, .slice an s.now.length cn, .slice az s.sure.length cs, .slice aa s.acts.length ca, .int .i64 (s.room : Int), .int .i64 (s.steps : Int), .int .i64 (lim s)] 33)).alloc (.cells #[.int .i64 4, .string ⟨x.toArray⟩, .string ⟨y.toArray⟩, vd, .int .i64 n, .int .i64 m] 37)).alloc (.cells #[.slice none 0 0, .slice none 0 0, .slice none 0 0, .slice none 0 0, .int .i64 0, .int .i64 0, .int .i64 0] 33) = q := ⟨_, rfl⟩
  rw [hw2] at HT ⊢
  clear hw2
  obtain ⟨o0, o1, o2, o3, o4, o5⟩ := HT.out.ocells (d := d)
  have HP := Lib.hid (g_rename HT.out.g (by have h3 := HB.out.st; omega) HE.out x y (by have h1 := HO.out.nm; dsimp only at h1; omega) (by have h1 := HO.out.dest; dsimp only at h1; omega))
  rw [hc, hr] at HP
  go_wp2_with fail
  refine HP.out.mono ?_
  rintro e w3 ⟨rfl, g3, hz3, hk3⟩
  have T3 := Lib.hid (HT.out.prog g3 hz3 hk3)
  clear g3 hz3 hk3 HP HT o0 o1 o2 o3 o4 o5
  have HRF := Lib.hid (rRename_any S _ s x y w3 (HV.out.kept (fun k hk => ⟨hk, T3.out.far k (HSF.out k hk)⟩)) (fun k hk => by have h1 := T3.out.fl k (HSF.out k hk); have h2 := T3.out.sz; omega) HB.out (by have h1 := HO.out.dest; dsimp only at h1; omega))
  rw [hc, hr] at HRF
  clear hc hr
  unfold fsV at HRF
  obtain ⟨o0, o1, o2, o3, o4, o5⟩ := T3.out.ocells (d := d)
  obtain ⟨q0, q1, q2, q3, q4, q5, q6⟩ := T3.out.box.cells
  go_wp2_with fail
  refine HRF.out.mono ?_
  rintro e w4 ⟨v4, rfl, V4, b4⟩
  obtain ⟨af4, an4, az4, aa4, cf4, cn4, cs4, ca4, rfl, R4⟩ := V4.shape
  have HV4 := Lib.hid R4
  have T4 := Lib.hid (T3.out.ref b4)
  clear R4 V4 b4 HRF o0 o1 o2 o3 o4 o5 q0 q1 q2 q3 q4 q5 q6
  unfold fsV
  obtain ⟨q0, q1, q2, q3, q4, q5, q6⟩ := T4.out.box.cells
  have fq := T4.out.box.free
  go_upto_region 30 with fail
  obtain ⟨w5, hW⟩ : ∃ qq, ((((((w4.setCell ⟨w.heap.size, 0, none⟩ (.slice af4 r.files.length cf4)).setCell ⟨w.heap.size, 1, none⟩ (.slice an4 r.now.length cn4)).setCell ⟨w.heap.size, 2, none⟩ (.slice az4 r.sure.length cs4)).setCell ⟨w.heap.size, 3, none⟩ (.slice aa4 r.acts.length ca4)).setCell ⟨w.heap.size, 4, none⟩ (.int .i64 (r.room : Int))).setCell ⟨w.heap.size, 5, none⟩ (.int .i64 (r.steps : Int))).setCell ⟨w.heap.size, 6, none⟩ (.int .i64 (lim r)) = qq := ⟨_, rfl⟩
  rw [hW]
  have ht := T4.out.put hW
  have T5 := Lib.hid ht.1
  have P5 := Lib.hid ht.2
  clear hW ht q0 q1 q2 q3 q4 q5 q6 fq T4
  obtain ⟨q0, q1, q2, q3, q4, q5, q6⟩ := T5.out.box.cells
  obtain ⟨r0, r1, r2, r3, r4, r5, r6⟩ := T5.out.rcells
  have fr : ∀ q : Nat, w5.frozen? ⟨w.heap.size + 1 + 1, q, none⟩ = false := frozen_box T5.out.res
  go_wp2_with fail
  obtain ⟨W, hW⟩ : ∃ qq, ((((((w5.setCell ⟨w.heap.size + 1 + 1, 0, none⟩ (.slice af4 r.files.length cf4)).setCell ⟨w.heap.size + 1 + 1, 1, none⟩ (.slice an4 r.now.length cn4)).setCell ⟨w.heap.size + 1 + 1, 2, none⟩ (.slice az4 r.sure.length cs4)).setCell ⟨w.heap.size + 1 + 1, 3, none⟩ (.slice aa4 r.acts.length ca4)).setCell ⟨w.heap.size + 1 + 1, 4, none⟩ (.int .i64 (r.room : Int))).setCell ⟨w.heap.size + 1 + 1, 5, none⟩ (.int .i64 (r.steps : Int))).setCell ⟨w.heap.size + 1 + 1, 6, none⟩ (.int .i64 (lim r)) = qq := ⟨_, rfl⟩
  rw [hW]
  have hfin := T5.out.fin hW
  have HX := Lib.hid hfin.1
  have PW := Lib.hid hfin.2.1
  have GW := Lib.hid hfin.2.2.1
  have FW := Lib.hid hfin.2.2.2
  clear hW hfin q0 q1 q2 q3 q4 q5 q6 r0 r1 r2 r3 r4 r5 r6 fr
  obtain ⟨q0, q1, q2, q3, q4, q5, q6⟩ := HX.out.cells
  clear HX
  refine bodyPost_ret (v := .tuple #[.agg #[.slice af4 r.files.length cf4, .slice an4 r.now.length cn4, .slice az4 r.sure.length cs4, .slice aa4 r.acts.length ca4, .int .i64 (r.room : Int), .int .i64 (r.steps : Int), .int .i64 (lim r)], .bool true]) (by simp [results, Tryz.results11, go_sem, q0, q1, q2, q3, q4, q5, q6]) rfl ⟨_, _, rfl, ?_, GW.out, ?_, ?_, FW.out⟩
  · exact fun k hk => Or.inl (Or.inl hk)
  · have h4 := HV4.out
    have hz3 := T3.out.sz
    refine FsV.kept (s := r) ⟨_, _, _, _, rfl, h4⟩ (fun q hq => ?_)
    rcases hq with hq | hq
    · have hl := T3.out.fl q (HSF.out q hq)
      exact ⟨⟨Or.inl (Or.inl (HSF.out q hq)), Or.inl hq⟩, (PW.out.far (by omega)).trans (P5.out.far (by omega))⟩
    · exact ⟨⟨Or.inr hq, Or.inr (by omega)⟩, (PW.out.far (by omega)).trans (P5.out.far (by omega))⟩
  · have h1 := PW.out.size
    have h2 := T5.out.sz
    omega
set_option maxRecDepth 100000 in
set_option maxHeartbeats 4000000 in
theorem step_5 {w0 w : World} {F : Nat → Prop} {bf : Nat} {s : Fs} (g : FsG w0 F w bf s) (hB : Bd s) (hE : PEnv w0) (S : Nat → Prop) (hSF : ∀ k, S k → F k) (v : Value) (h : FsV S w v s) (x y : Nm) (vd : Value) (d : Nm) (n m : Int) (hd : BytesC F w vd d) (ho : OpOk ⟨5, x, y, d, n, m⟩) :
    Calls Tryz.prog 11 #[.pointer (some ⟨bf, 0, none⟩), v, .agg (opRow ⟨5, x, y, d, n, m⟩ vd)] w (StP w0 F S w bf (opS s ⟨5, x, y, d, n, m⟩).1) := by
  have e1 : opS s ⟨5, x, y, d, n, m⟩ = removeS s x := rfl
  rw [e1]
  clear e1
  obtain ⟨c, hc⟩ : ∃ q, (removeS s x).2 = q := ⟨_, rfl⟩
  obtain ⟨r, hr⟩ : ∃ q, (removeS s x).1 = q := ⟨_, rfl⟩
  rw [hr]
  obtain ⟨af, an, az, aa, cf, cn, cs, ca, rfl, hR⟩ := h.shape
  have HT := Lib.hid (Ss.make g (.slice af s.files.length cf) (.slice an s.now.length cn) (.slice az s.sure.length cs) (.slice aa s.acts.length ca) (s.room : Int) (s.steps : Int) (lim s) (opRow ⟨5, x, y, d, n, m⟩ vd))
  have HV := Lib.hid h
  have HSF := Lib.hid hSF
  have HB := Lib.hid hB
  have HD := Lib.hid hd
  have HE := Lib.hid hE
  have HO := Lib.hid ho
  clear g h hB hd hR hE ho hSF
  unfold fsV zrow at HT
  unfold opRow at HT ⊢
  unfold fsV
  go_enter Tryz.func11, Tryz.ntmps11
  go_upto_region 1 with fail
  obtain ⟨w2, hw2⟩ : ∃ q, ((w.alloc (.cells #[.slice af s.files.length cf, .slice an s.now.length cn, .slice az s.sure.length cs, .slice aa s.acts.length ca, .int .i64 (s.room : Int), .int .i64 (s.steps : Int), .int .i64 (lim s)] 33)).alloc (.cells #[.int .i64 5, .string ⟨x.toArray⟩, .string ⟨y.toArray⟩, vd, .int .i64 n, .int .i64 m] 37)).alloc (.cells #[.slice none 0 0, .slice none 0 0, .slice none 0 0, .slice none 0 0, .int .i64 0, .int .i64 0, .int .i64 0] 33) = q := ⟨_, rfl⟩
  rw [hw2] at HT ⊢
  clear hw2
  obtain ⟨o0, o1, o2, o3, o4, o5⟩ := HT.out.ocells (d := d)
  have HP := Lib.hid (g_remove HT.out.g (by have h3 := HB.out.st; omega) x (by have h1 := HO.out.nm; dsimp only at h1; omega))
  rw [hc, hr] at HP
  go_wp2_with fail
  refine HP.out.mono ?_
  rintro e w3 ⟨rfl, g3, hz3, hk3⟩
  have T3 := Lib.hid (HT.out.prog g3 hz3 hk3)
  clear g3 hz3 hk3 HP HT o0 o1 o2 o3 o4 o5
  have HRF := Lib.hid (rRemove_any S _ s x w3 (HV.out.kept (fun k hk => ⟨hk, T3.out.far k (HSF.out k hk)⟩)) (fun k hk => by have h1 := T3.out.fl k (HSF.out k hk); have h2 := T3.out.sz; omega) HB.out)
  rw [hc, hr] at HRF
  clear hc hr
  unfold fsV at HRF
  obtain ⟨o0, o1, o2, o3, o4, o5⟩ := T3.out.ocells (d := d)
  obtain ⟨q0, q1, q2, q3, q4, q5, q6⟩ := T3.out.box.cells
  go_wp2_with fail
  refine HRF.out.mono ?_
  rintro e w4 ⟨v4, rfl, V4, b4⟩
  obtain ⟨af4, an4, az4, aa4, cf4, cn4, cs4, ca4, rfl, R4⟩ := V4.shape
  have HV4 := Lib.hid R4
  have T4 := Lib.hid (T3.out.ref b4)
  clear R4 V4 b4 HRF o0 o1 o2 o3 o4 o5 q0 q1 q2 q3 q4 q5 q6
  unfold fsV
  obtain ⟨q0, q1, q2, q3, q4, q5, q6⟩ := T4.out.box.cells
  have fq := T4.out.box.free
  go_upto_region 30 with fail
  obtain ⟨w5, hW⟩ : ∃ qq, ((((((w4.setCell ⟨w.heap.size, 0, none⟩ (.slice af4 r.files.length cf4)).setCell ⟨w.heap.size, 1, none⟩ (.slice an4 r.now.length cn4)).setCell ⟨w.heap.size, 2, none⟩ (.slice az4 r.sure.length cs4)).setCell ⟨w.heap.size, 3, none⟩ (.slice aa4 r.acts.length ca4)).setCell ⟨w.heap.size, 4, none⟩ (.int .i64 (r.room : Int))).setCell ⟨w.heap.size, 5, none⟩ (.int .i64 (r.steps : Int))).setCell ⟨w.heap.size, 6, none⟩ (.int .i64 (lim r)) = qq := ⟨_, rfl⟩
  rw [hW]
  have ht := T4.out.put hW
  have T5 := Lib.hid ht.1
  have P5 := Lib.hid ht.2
  clear hW ht q0 q1 q2 q3 q4 q5 q6 fq T4
  obtain ⟨q0, q1, q2, q3, q4, q5, q6⟩ := T5.out.box.cells
  obtain ⟨r0, r1, r2, r3, r4, r5, r6⟩ := T5.out.rcells
  have fr : ∀ q : Nat, w5.frozen? ⟨w.heap.size + 1 + 1, q, none⟩ = false := frozen_box T5.out.res
  go_wp2_with fail
  obtain ⟨W, hW⟩ : ∃ qq, ((((((w5.setCell ⟨w.heap.size + 1 + 1, 0, none⟩ (.slice af4 r.files.length cf4)).setCell ⟨w.heap.size + 1 + 1, 1, none⟩ (.slice an4 r.now.length cn4)).setCell ⟨w.heap.size + 1 + 1, 2, none⟩ (.slice az4 r.sure.length cs4)).setCell ⟨w.heap.size + 1 + 1, 3, none⟩ (.slice aa4 r.acts.length ca4)).setCell ⟨w.heap.size + 1 + 1, 4, none⟩ (.int .i64 (r.room : Int))).setCell ⟨w.heap.size + 1 + 1, 5, none⟩ (.int .i64 (r.steps : Int))).setCell ⟨w.heap.size + 1 + 1, 6, none⟩ (.int .i64 (lim r)) = qq := ⟨_, rfl⟩
  rw [hW]
  have hfin := T5.out.fin hW
  have HX := Lib.hid hfin.1
  have PW := Lib.hid hfin.2.1
  have GW := Lib.hid hfin.2.2.1
  have FW := Lib.hid hfin.2.2.2
  clear hW hfin q0 q1 q2 q3 q4 q5 q6 r0 r1 r2 r3 r4 r5 r6 fr
  obtain ⟨q0, q1, q2, q3, q4, q5, q6⟩ := HX.out.cells
  clear HX
  refine bodyPost_ret (v := .tuple #[.agg #[.slice af4 r.files.length cf4, .slice an4 r.now.length cn4, .slice az4 r.sure.length cs4, .slice aa4 r.acts.length ca4, .int .i64 (r.room : Int), .int .i64 (r.steps : Int), .int .i64 (lim r)], .bool true]) (by simp [results, Tryz.results11, go_sem, q0, q1, q2, q3, q4, q5, q6]) rfl ⟨_, _, rfl, ?_, GW.out, ?_, ?_, FW.out⟩
  · exact fun k hk => Or.inl (Or.inl hk)
  · have h4 := HV4.out
    have hz3 := T3.out.sz
    refine FsV.kept (s := r) ⟨_, _, _, _, rfl, h4⟩ (fun q hq => ?_)
    rcases hq with hq | hq
    · have hl := T3.out.fl q (HSF.out q hq)
      exact ⟨⟨Or.inl (Or.inl (HSF.out q hq)), Or.inl hq⟩, (PW.out.far (by omega)).trans (P5.out.far (by omega))⟩
    · exact ⟨⟨Or.inr hq, Or.inr (by omega)⟩, (PW.out.far (by omega)).trans (P5.out.far (by omega))⟩
  · have h1 := PW.out.size
    have h2 := T5.out.sz
    omega
set_option maxRecDepth 100000 in
set_option maxHeartbeats 4000000 in
theorem step_6 {w0 w : World} {F : Nat → Prop} {bf : Nat} {s : Fs} (g : FsG w0 F w bf s) (hB : Bd s) (hE : PEnv w0) (S : Nat → Prop) (hSF : ∀ k, S k → F k) (v : Value) (h : FsV S w v s) (x y : Nm) (vd : Value) (d : Nm) (n m : Int) (hd : BytesC F w vd d) (ho : OpOk ⟨6, x, y, d, n, m⟩) :
    Calls Tryz.prog 11 #[.pointer (some ⟨bf, 0, none⟩), v, .agg (opRow ⟨6, x, y, d, n, m⟩ vd)] w (StP w0 F S w bf (opS s ⟨6, x, y, d, n, m⟩).1) := by
  have e1 : opS s ⟨6, x, y, d, n, m⟩ = flushS s := rfl
  rw [e1]
  clear e1
  obtain ⟨c, hc⟩ : ∃ q, (flushS s).2 = q := ⟨_, rfl⟩
  obtain ⟨r, hr⟩ : ∃ q, (flushS s).1 = q := ⟨_, rfl⟩
  rw [hr]
  obtain ⟨af, an, az, aa, cf, cn, cs, ca, rfl, hR⟩ := h.shape
  have HT := Lib.hid (Ss.make g (.slice af s.files.length cf) (.slice an s.now.length cn) (.slice az s.sure.length cs) (.slice aa s.acts.length ca) (s.room : Int) (s.steps : Int) (lim s) (opRow ⟨6, x, y, d, n, m⟩ vd))
  have HV := Lib.hid h
  have HSF := Lib.hid hSF
  have HB := Lib.hid hB
  have HD := Lib.hid hd
  have HE := Lib.hid hE
  have HO := Lib.hid ho
  clear g h hB hd hR hE ho hSF
  unfold fsV zrow at HT
  unfold opRow at HT ⊢
  unfold fsV
  go_enter Tryz.func11, Tryz.ntmps11
  go_upto_region 1 with fail
  obtain ⟨w2, hw2⟩ : ∃ q, ((w.alloc (.cells #[.slice af s.files.length cf, .slice an s.now.length cn, .slice az s.sure.length cs, .slice aa s.acts.length ca, .int .i64 (s.room : Int), .int .i64 (s.steps : Int), .int .i64 (lim s)] 33)).alloc (.cells #[.int .i64 6, .string ⟨x.toArray⟩, .string ⟨y.toArray⟩, vd, .int .i64 n, .int .i64 m] 37)).alloc (.cells #[.slice none 0 0, .slice none 0 0, .slice none 0 0, .slice none 0 0, .int .i64 0, .int .i64 0, .int .i64 0] 33) = q := ⟨_, rfl⟩
  rw [hw2] at HT ⊢
  clear hw2
  obtain ⟨o0, o1, o2, o3, o4, o5⟩ := HT.out.ocells (d := d)
  have HP := Lib.hid (g_flush HT.out.g (by have h3 := HB.out.st; omega))
  rw [hc, hr] at HP
  go_wp2_with fail
  refine HP.out.mono ?_
  rintro e w3 ⟨rfl, g3, hz3, hk3⟩
  have T3 := Lib.hid (HT.out.prog g3 hz3 hk3)
  clear g3 hz3 hk3 HP HT o0 o1 o2 o3 o4 o5
  have HRF := Lib.hid (rFlush_any S _ s  w3 (HV.out.kept (fun k hk => ⟨hk, T3.out.far k (HSF.out k hk)⟩)) (fun k hk => by have h1 := T3.out.fl k (HSF.out k hk); have h2 := T3.out.sz; omega) HB.out)
  rw [hc, hr] at HRF
  clear hc hr
  unfold fsV at HRF
  obtain ⟨o0, o1, o2, o3, o4, o5⟩ := T3.out.ocells (d := d)
  obtain ⟨q0, q1, q2, q3, q4, q5, q6⟩ := T3.out.box.cells
  go_wp2_with fail
  refine HRF.out.mono ?_
  rintro e w4 ⟨v4, rfl, V4, b4⟩
  obtain ⟨af4, an4, az4, aa4, cf4, cn4, cs4, ca4, rfl, R4⟩ := V4.shape
  have HV4 := Lib.hid R4
  have T4 := Lib.hid (T3.out.ref b4)
  clear R4 V4 b4 HRF o0 o1 o2 o3 o4 o5 q0 q1 q2 q3 q4 q5 q6
  unfold fsV
  obtain ⟨q0, q1, q2, q3, q4, q5, q6⟩ := T4.out.box.cells
  have fq := T4.out.box.free
  go_upto_region 30 with fail
  obtain ⟨w5, hW⟩ : ∃ qq, ((((((w4.setCell ⟨w.heap.size, 0, none⟩ (.slice af4 r.files.length cf4)).setCell ⟨w.heap.size, 1, none⟩ (.slice an4 r.now.length cn4)).setCell ⟨w.heap.size, 2, none⟩ (.slice az4 r.sure.length cs4)).setCell ⟨w.heap.size, 3, none⟩ (.slice aa4 r.acts.length ca4)).setCell ⟨w.heap.size, 4, none⟩ (.int .i64 (r.room : Int))).setCell ⟨w.heap.size, 5, none⟩ (.int .i64 (r.steps : Int))).setCell ⟨w.heap.size, 6, none⟩ (.int .i64 (lim r)) = qq := ⟨_, rfl⟩
  rw [hW]
  have ht := T4.out.put hW
  have T5 := Lib.hid ht.1
  have P5 := Lib.hid ht.2
  clear hW ht q0 q1 q2 q3 q4 q5 q6 fq T4
  obtain ⟨q0, q1, q2, q3, q4, q5, q6⟩ := T5.out.box.cells
  obtain ⟨r0, r1, r2, r3, r4, r5, r6⟩ := T5.out.rcells
  have fr : ∀ q : Nat, w5.frozen? ⟨w.heap.size + 1 + 1, q, none⟩ = false := frozen_box T5.out.res
  go_wp2_with fail
  obtain ⟨W, hW⟩ : ∃ qq, ((((((w5.setCell ⟨w.heap.size + 1 + 1, 0, none⟩ (.slice af4 r.files.length cf4)).setCell ⟨w.heap.size + 1 + 1, 1, none⟩ (.slice an4 r.now.length cn4)).setCell ⟨w.heap.size + 1 + 1, 2, none⟩ (.slice az4 r.sure.length cs4)).setCell ⟨w.heap.size + 1 + 1, 3, none⟩ (.slice aa4 r.acts.length ca4)).setCell ⟨w.heap.size + 1 + 1, 4, none⟩ (.int .i64 (r.room : Int))).setCell ⟨w.heap.size + 1 + 1, 5, none⟩ (.int .i64 (r.steps : Int))).setCell ⟨w.heap.size + 1 + 1, 6, none⟩ (.int .i64 (lim r)) = qq := ⟨_, rfl⟩
  rw [hW]
  have hfin := T5.out.fin hW
  have HX := Lib.hid hfin.1
  have PW := Lib.hid hfin.2.1
  have GW := Lib.hid hfin.2.2.1
  have FW := Lib.hid hfin.2.2.2
  clear hW hfin q0 q1 q2 q3 q4 q5 q6 r0 r1 r2 r3 r4 r5 r6 fr
  obtain ⟨q0, q1, q2, q3, q4, q5, q6⟩ := HX.out.cells
  clear HX
  refine bodyPost_ret (v := .tuple #[.agg #[.slice af4 r.files.length cf4, .slice an4 r.now.length cn4, .slice az4 r.sure.length cs4, .slice aa4 r.acts.length ca4, .int .i64 (r.room : Int), .int .i64 (r.steps : Int), .int .i64 (lim r)], .bool true]) (by simp [results, Tryz.results11, go_sem, q0, q1, q2, q3, q4, q5, q6]) rfl ⟨_, _, rfl, ?_, GW.out, ?_, ?_, FW.out⟩
  · exact fun k hk => Or.inl (Or.inl hk)
  · have h4 := HV4.out
    have hz3 := T3.out.sz
    refine FsV.kept (s := r) ⟨_, _, _, _, rfl, h4⟩ (fun q hq => ?_)
    rcases hq with hq | hq
    · have hl := T3.out.fl q (HSF.out q hq)
      exact ⟨⟨Or.inl (Or.inl (HSF.out q hq)), Or.inl hq⟩, (PW.out.far (by omega)).trans (P5.out.far (by omega))⟩
    · exact ⟨⟨Or.inr hq, Or.inr (by omega)⟩, (PW.out.far (by omega)).trans (P5.out.far (by omega))⟩
  · have h1 := PW.out.size
    have h2 := T5.out.sz
    omega
end Go.Proofs.YtjefcalndfcmdaaGreatDoor
