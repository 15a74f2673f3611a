/- The laws' step, the other kinds; the step as a whole. -/
import Derived.Test.YtjefcalndfcmdaaGreatDoorVgY
namespace Go.Proofs.YtjefcalndfcmdaaGreatDoor
open Go.RowKit Go.Maps
attribute [local go_sem ↓] Go.wp_at_zero Go.wp_at_succ
theorem Ss.one6 {w0 w W : World} {F F2 : Nat → Prop} {bf : Nat} {vf vn vs va : Value} {room steps l : Int} {opr : Array Value} {s : Fs} (h : Ss w0 w W F F2 bf vf vn vs va room steps l opr s) (l' : Int) :
    Ss w0 w (W.setCell ⟨w.heap.size, 6, none⟩ (.int .i64 l')) F F2 bf vf vn vs va room steps l' opr s := by
  have h2 := SetA.one W w.heap.size 6 (.int .i64 l')
  have h3 := cells_set (i := 6) h.box.blk (.int .i64 l')
  exact ⟨h.g.write h.b0 h.low h2.al, h.inc, h.b0, h.b1, h.b2, h.up, ⟨h3.trans rfl⟩, (h2.far (by omega)).trans h.op, (h2.far (by omega)).trans h.res, fun k hf => (h2.far (by have := h.fl k hf; omega)).trans (h.far k hf), h.fl, by rw [h2.size]; exact h.sz, h.low⟩
set_option maxRecDepth 100000 in
set_option maxHeartbeats 4000000 in
theorem step_1 {w0 w : World} {F : Nat → Prop} {bf : Nat} {s : Fs} (g : FsG w0 F w bf s) (hB : Bd s) (hE : PEnv w0) (S : Nat → Prop) (hSF : ∀ k, S k → F k) (v : Value) (h : FsV S w v s) (x y : Nm) (vd : Value) (d : Nm) (n m : Int) (hd : BytesC F w vd d) (ho : OpOk ⟨1, x, y, d, n, m⟩) :
    Calls Tryz.prog 11 #[.pointer (some ⟨bf, 0, none⟩), v, .agg (opRow ⟨1, x, y, d, n, m⟩ vd)] w (StP w0 F S w bf (opS s ⟨1, x, y, d, n, m⟩).1) := by
  have e1 : opS s ⟨1, x, y, d, n, m⟩ = appendS s x d := rfl
  rw [e1]
  clear e1
  obtain ⟨c, hc⟩ : ∃ q, (appendS s x d).2 = q := ⟨_, rfl⟩
  obtain ⟨r, hr⟩ : ∃ q, (appendS s x d).1 = q := ⟨_, rfl⟩
  rw [hr]
  obtain ⟨af, an, az, aa, cf, cn, cs, ca, rfl, hR⟩ := h.shape
  have HT := Lib.hid (Ss.make g (.slice af s.files.length cf) (.slice an s.now.length cn) (.slice az s.sure.length cs) (.slice aa s.acts.length ca) (s.room : Int) (s.steps : Int) (lim s) (opRow ⟨1, x, y, d, n, m⟩ vd))
  have HV := Lib.hid h
  have HSF := Lib.hid hSF
  have HB := Lib.hid hB
  have HD := Lib.hid hd
  have HE := Lib.hid hE
  have HO := Lib.hid ho
  clear g h hB hd hR hE ho hSF
  unfold fsV zrow at HT
  unfold opRow at HT ⊢
  unfold fsV
  go_enter Tryz.func11, Tryz.ntmps11
  go_upto_region 1 with fail
  obtain ⟨w2, hw2⟩ : ∃ q, ((w.alloc (.cells #[.slice af s.files.length cf, .slice an s.now.length cn, .slice az s.sure.length cs, .slice aa s.acts.length ca, .int .i64 (s.room : Int), .int .i64 (s.steps : Int), .int .i64 (lim s)] 33)).alloc (.cells #[.int .i64 1, .string ⟨x.toArray⟩, .string ⟨y.toArray⟩, vd, .int .i64 n, .int .i64 m] 37)).alloc (.cells #[.slice none 0 0, .slice none 0 0, .slice none 0 0, .slice none 0 0, .int .i64 0, .int .i64 0, .int .i64 0] 33) = q := ⟨_, rfl⟩
  rw [hw2] at HT ⊢
  clear hw2
  obtain ⟨o0, o1, o2, o3, o4, o5⟩ := HT.out.ocells (d := d)
  have HP := Lib.hid (g_append HT.out.g (by have h3 := HB.out.st; omega) x (by have h1 := HO.out.nm; dsimp only at h1; omega) F vd d (HD.out.kept (S' := F) (w' := w2) (fun k hk => ⟨hk, HT.out.far k hk⟩)) (fun k hk => Or.inr (HT.out.inc k hk)) (by have h1 := HO.out.dt; dsimp only at h1; omega))
  rw [hc, hr] at HP
  go_wp2_with fail
  refine HP.out.mono ?_
  rintro e w3 ⟨rfl, g3, hz3, hk3⟩
  have T3 := Lib.hid (HT.out.prog g3 hz3 hk3)
  clear g3 hz3 hk3 HP HT o0 o1 o2 o3 o4 o5
  have HRF := Lib.hid (rAppend_any S _ s x d w3 (HV.out.kept (fun k hk => ⟨hk, T3.out.far k (HSF.out k hk)⟩)) (fun k hk => by have h1 := T3.out.fl k (HSF.out k hk); have h2 := T3.out.sz; omega) HB.out (by have h1 := HO.out.dt; dsimp only at h1; omega))
  rw [hc, hr] at HRF
  clear hc hr
  unfold fsV at HRF
  obtain ⟨o0, o1, o2, o3, o4, o5⟩ := T3.out.ocells (d := d)
  obtain ⟨q0, q1, q2, q3, q4, q5, q6⟩ := T3.out.box.cells
  have hcv := bytes_str (HD.out.kept (S' := F) (w' := w3) (fun k hk => ⟨hk, T3.out.far k hk⟩))
  go_wp2_with fail
  refine HRF.out.mono ?_
  rintro e w4 ⟨v4, rfl, V4, b4⟩
  obtain ⟨af4, an4, az4, aa4, cf4, cn4, cs4, ca4, rfl, R4⟩ := V4.shape
  have HV4 := Lib.hid R4
  have T4 := Lib.hid (T3.out.ref b4)
  clear hcv R4 V4 b4 HRF o0 o1 o2 o3 o4 o5 q0 q1 q2 q3 q4 q5 q6
  unfold fsV
  obtain ⟨q0, q1, q2, q3, q4, q5, q6⟩ := T4.out.box.cells
  have fq := T4.out.box.free
  go_upto_region 30 with fail
  obtain ⟨w5, hW⟩ : ∃ qq, ((((((w4.setCell ⟨w.heap.size, 0, none⟩ (.slice af4 r.files.length cf4)).setCell ⟨w.heap.size, 1, none⟩ (.slice an4 r.now.length cn4)).setCell ⟨w.heap.size, 2, none⟩ (.slice az4 r.sure.length cs4)).setCell ⟨w.heap.size, 3, none⟩ (.slice aa4 r.acts.length ca4)).setCell ⟨w.heap.size, 4, none⟩ (.int .i64 (r.room : Int))).setCell ⟨w.heap.size, 5, none⟩ (.int .i64 (r.steps : Int))).setCell ⟨w.heap.size, 6, none⟩ (.int .i64 (lim r)) = qq := ⟨_, rfl⟩
  rw [hW]
  have ht := T4.out.put hW
  have T5 := Lib.hid ht.1
  have P5 := Lib.hid ht.2
  clear hW ht q0 q1 q2 q3 q4 q5 q6 fq T4
  obtain ⟨q0, q1, q2, q3, q4, q5, q6⟩ := T5.out.box.cells
  obtain ⟨r0, r1, r2, r3, r4, r5, r6⟩ := T5.out.rcells
  have fr : ∀ q : Nat, w5.frozen? ⟨w.heap.size + 1 + 1, q, none⟩ = false := frozen_box T5.out.res
  go_wp2_with fail
  obtain ⟨W, hW⟩ : ∃ qq, ((((((w5.setCell ⟨w.heap.size + 1 + 1, 0, none⟩ (.slice af4 r.files.length cf4)).setCell ⟨w.heap.size + 1 + 1, 1, none⟩ (.slice an4 r.now.length cn4)).setCell ⟨w.heap.size + 1 + 1, 2, none⟩ (.slice az4 r.sure.length cs4)).setCell ⟨w.heap.size + 1 + 1, 3, none⟩ (.slice aa4 r.acts.length ca4)).setCell ⟨w.heap.size + 1 + 1, 4, none⟩ (.int .i64 (r.room : Int))).setCell ⟨w.heap.size + 1 + 1, 5, none⟩ (.int .i64 (r.steps : Int))).setCell ⟨w.heap.size + 1 + 1, 6, none⟩ (.int .i64 (lim r)) = qq := ⟨_, rfl⟩
  rw [hW]
  have hfin := T5.out.fin hW
  have HX := Lib.hid hfin.1
  have PW := Lib.hid hfin.2.1
  have GW := Lib.hid hfin.2.2.1
  have FW := Lib.hid hfin.2.2.2
  clear hW hfin q0 q1 q2 q3 q4 q5 q6 r0 r1 r2 r3 r4 r5 r6 fr
  obtain ⟨q0, q1, q2, q3, q4, q5, q6⟩ := HX.out.cells
  clear HX
  refine bodyPost_ret (v := .tuple #[.agg #[.slice af4 r.files.length cf4, .slice an4 r.now.length cn4, .slice az4 r.sure.length cs4, .slice aa4 r.acts.length ca4, .int .i64 (r.room : Int), .int .i64 (r.steps : Int), .int .i64 (lim r)], .bool true]) (by simp [results, Tryz.results11, go_sem, q0, q1, q2, q3, q4, q5, q6]) rfl ⟨_, _, rfl, ?_, GW.out, ?_, ?_, FW.out⟩
  · exact fun k hk => Or.inl (Or.inl hk)
  · have h4 := HV4.out
    have hz3 := T3.out.sz
    refine FsV.kept (s := r) ⟨_, _, _, _, rfl, h4⟩ (fun q hq => ?_)
    rcases hq with hq | hq
    · have hl := T3.out.fl q (HSF.out q hq)
      exact ⟨⟨Or.inl (Or.inl (HSF.out q hq)), Or.inl hq⟩, (PW.out.far (by omega)).trans (P5.out.far (by omega))⟩
    · exact ⟨⟨Or.inr hq, Or.inr (by omega)⟩, (PW.out.far (by omega)).trans (P5.out.far (by omega))⟩
  · have h1 := PW.out.size
    have h2 := T5.out.sz
    omega
set_option maxRecDepth 100000 in
set_option maxHeartbeats 4000000 in
theorem step_7 {w0 w : World} {F : Nat → Prop} {bf : Nat} {s : Fs} (g : FsG w0 F w bf s) (hB : Bd s) (hE : PEnv w0) (S : Nat → Prop) (hSF : ∀ k, S k → F k) (v : Value) (h : FsV S w v s) (x y : Nm) (vd : Value) (d : Nm) (n m : Int) (hd : BytesC F w vd d) (ho : OpOk ⟨7, x, y, d, n, m⟩) :
    Calls Tryz.prog 11 #[.pointer (some ⟨bf, 0, none⟩), v, .agg (opRow ⟨7, x, y, d, n, m⟩ vd)] w (StP w0 F S w bf (opS s ⟨7, x, y, d, n, m⟩).1) := by
  have e1 : opS s ⟨7, x, y, d, n, m⟩ = (crashS s n m, 0) := rfl
  rw [e1]
  clear e1
  obtain ⟨r, hr⟩ : ∃ q, crashS s n m = q := ⟨_, rfl⟩
  have HR1 := Lib.hid hr
  clear hr
  dsimp only
  rw [HR1.out]
  obtain ⟨af, an, az, aa, cf, cn, cs, ca, rfl, hR⟩ := h.shape
  have HT := Lib.hid (Ss.make g (.slice af s.files.length cf) (.slice an s.now.length cn) (.slice az s.sure.length cs) (.slice aa s.acts.length ca) (s.room : Int) (s.steps : Int) (lim s) (opRow ⟨7, x, y, d, n, m⟩ vd))
  have HV := Lib.hid h
  have HSF := Lib.hid hSF
  have HB := Lib.hid hB
  have HD := Lib.hid hd
  have HE := Lib.hid hE
  have HO := Lib.hid ho
  clear g h hB hd hR hE ho hSF
  unfold fsV zrow at HT
  unfold opRow at HT ⊢
  unfold fsV
  go_enter Tryz.func11, Tryz.ntmps11
  go_upto_region 1 with fail
  obtain ⟨w2, hw2⟩ : ∃ q, ((w.alloc (.cells #[.slice af s.files.length cf, .slice an s.now.length cn, .slice az s.sure.length cs, .slice aa s.acts.length ca, .int .i64 (s.room : Int), .int .i64 (s.steps : Int), .int .i64 (lim s)] 33)).alloc (.cells #[.int .i64 7, .string ⟨x.toArray⟩, .string ⟨y.toArray⟩, vd, .int .i64 n, .int .i64 m] 37)).alloc (.cells #[.slice none 0 0, .slice none 0 0, .slice none 0 0, .slice none 0 0, .int .i64 0, .int .i64 0, .int .i64 0] 33) = q := ⟨_, rfl⟩
  rw [hw2] at HT ⊢
  clear hw2
  obtain ⟨o0, o1, o2, o3, o4, o5⟩ := HT.out.ocells (d := d)
  have HP := Lib.hid (g_crash HT.out.g (by have h3 := HB.out.st; omega) n m)
  rw [HR1.out] at HP
  go_wp2_with fail
  refine HP.out.mono ?_
  rintro e w3 ⟨rfl, g3, hz3, hk3⟩
  have T3 := Lib.hid (HT.out.prog g3 hz3 hk3)
  clear g3 hz3 hk3 HP HT o0 o1 o2 o3 o4 o5
  have HRF := Lib.hid (rcrash_any S _ s n m w3 (HV.out.kept (fun k hk => ⟨hk, T3.out.far k (HSF.out k hk)⟩)) (fun k hk => by have h1 := T3.out.fl k (HSF.out k hk); have h2 := T3.out.sz; omega) HB.out)
  rw [HR1.out] at HRF
  
  unfold fsV at HRF
  obtain ⟨o0, o1, o2, o3, o4, o5⟩ := T3.out.ocells (d := d)
  obtain ⟨q0, q1, q2, q3, q4, q5, q6⟩ := T3.out.box.cells
  go_wp2_with fail
  refine HRF.out.mono ?_
  rintro e w4 ⟨v4, rfl, V4, b4⟩
  obtain ⟨af4, an4, az4, aa4, cf4, cn4, cs4, ca4, rfl, R4⟩ := V4.shape
  have HV4 := Lib.hid R4
  have T4 := Lib.hid (T3.out.ref b4)
  clear R4 V4 b4 HRF o0 o1 o2 o3 o4 o5 q0 q1 q2 q3 q4 q5 q6
  unfold fsV
  obtain ⟨q0, q1, q2, q3, q4, q5, q6⟩ := T4.out.box.cells
  have fq := T4.out.box.free
  go_upto_region 30 with fail
  obtain ⟨w5, hW⟩ : ∃ qq, ((((((w4.setCell ⟨w.heap.size, 0, none⟩ (.slice af4 r.files.length cf4)).setCell ⟨w.heap.size, 1, none⟩ (.slice an4 r.now.length cn4)).setCell ⟨w.heap.size, 2, none⟩ (.slice az4 r.sure.length cs4)).setCell ⟨w.heap.size, 3, none⟩ (.slice aa4 r.acts.length ca4)).setCell ⟨w.heap.size, 4, none⟩ (.int .i64 (r.room : Int))).setCell ⟨w.heap.size, 5, none⟩ (.int .i64 (r.steps : Int))).setCell ⟨w.heap.size, 6, none⟩ (.int .i64 (lim r)) = qq := ⟨_, rfl⟩
  rw [hW]
  have ht := T4.out.put hW
  have T5 := Lib.hid ht.1
  have P5 := Lib.hid ht.2
  clear hW ht q0 q1 q2 q3 q4 q5 q6 fq T4
  obtain ⟨q0, q1, q2, q3, q4, q5, q6⟩ := T5.out.box.cells
  obtain ⟨r0, r1, r2, r3, r4, r5, r6⟩ := T5.out.rcells
  have fr : ∀ q : Nat, w5.frozen? ⟨w.heap.size + 1 + 1, q, none⟩ = false := frozen_box T5.out.res
  go_wp2_with fail
  obtain ⟨W, hW⟩ : ∃ qq, ((((((w5.setCell ⟨w.heap.size + 1 + 1, 0, none⟩ (.slice af4 r.files.length cf4)).setCell ⟨w.heap.size + 1 + 1, 1, none⟩ (.slice an4 r.now.length cn4)).setCell ⟨w.heap.size + 1 + 1, 2, none⟩ (.slice az4 r.sure.length cs4)).setCell ⟨w.heap.size + 1 + 1, 3, none⟩ (.slice aa4 r.acts.length ca4)).setCell ⟨w.heap.size + 1 + 1, 4, none⟩ (.int .i64 (r.room : Int))).setCell ⟨w.heap.size + 1 + 1, 5, none⟩ (.int .i64 (r.steps : Int))).setCell ⟨w.heap.size + 1 + 1, 6, none⟩ (.int .i64 (lim r)) = qq := ⟨_, rfl⟩
  rw [hW]
  have hfin := T5.out.fin hW
  have HX := Lib.hid hfin.1
  have PW := Lib.hid hfin.2.1
  have GW := Lib.hid hfin.2.2.1
  have FW := Lib.hid hfin.2.2.2
  clear hW hfin q0 q1 q2 q3 q4 q5 q6 r0 r1 r2 r3 r4 r5 r6 fr
  obtain ⟨q0, q1, q2, q3, q4, q5, q6⟩ := HX.out.cells
  clear HX
  refine bodyPost_ret (v := .tuple #[.agg #[.slice af4 r.files.length cf4, .slice an4 r.now.length cn4, .slice az4 r.sure.length cs4, .slice aa4 r.acts.length ca4, .int .i64 (r.room : Int), .int .i64 (r.steps : Int), .int .i64 (lim r)], .bool true]) (by simp [results, Tryz.results11, go_sem, q0, q1, q2, q3, q4, q5, q6]) rfl ⟨_, _, rfl, ?_, GW.out, ?_, ?_, FW.out⟩
  · exact fun k hk => Or.inl (Or.inl hk)
  · have h4 := HV4.out
    have hz3 := T3.out.sz
    refine FsV.kept (s := r) ⟨_, _, _, _, rfl, h4⟩ (fun q hq => ?_)
    rcases hq with hq | hq
    · have hl := T3.out.fl q (HSF.out q hq)
      exact ⟨⟨Or.inl (Or.inl (HSF.out q hq)), Or.inl hq⟩, (PW.out.far (by omega)).trans (P5.out.far (by omega))⟩
    · exact ⟨⟨Or.inr hq, Or.inr (by omega)⟩, (PW.out.far (by omega)).trans (P5.out.far (by omega))⟩
  · have h1 := PW.out.size
    have h2 := T5.out.sz
    omega
set_option maxRecDepth 100000 in
set_option maxHeartbeats 4000000 in
theorem step_8 {w0 w : World} {F : Nat → Prop} {bf : Nat} {s : Fs} (g : FsG w0 F w bf s) (hB : Bd s) (hE : PEnv w0) (S : Nat → Prop) (hSF : ∀ k, S k → F k) (v : Value) (h : FsV S w v s) (x y : Nm) (vd : Value) (d : Nm) (n m : Int) (hd : BytesC F w vd d) (ho : OpOk ⟨8, x, y, d, n, m⟩) :
    Calls Tryz.prog 11 #[.pointer (some ⟨bf, 0, none⟩), v, .agg (opRow ⟨8, x, y, d, n, m⟩ vd)] w (StP w0 F S w bf (opS s ⟨8, x, y, d, n, m⟩).1) := by
  have e1 : opS s ⟨8, x, y, d, n, m⟩ = ({ s with more := n }, 0) := rfl
  rw [e1]
  clear e1
  dsimp only
  have HLM : Hid (max n (-1) = lim ({ s with more := n } : Fs)) := Lib.hid (by unfold lim; dsimp only; split <;> omega)
  obtain ⟨af, an, az, aa, cf, cn, cs, ca, rfl, hR⟩ := h.shape
  have HT := Lib.hid (Ss.make g (.slice af s.files.length cf) (.slice an s.now.length cn) (.slice az s.sure.length cs) (.slice aa s.acts.length ca) (s.room : Int) (s.steps : Int) (lim s) (opRow ⟨8, x, y, d, n, m⟩ vd))
  have HV := Lib.hid h
  have HSF := Lib.hid hSF
  have HB := Lib.hid hB
  have HD := Lib.hid hd
  have HE := Lib.hid hE
  have HO := Lib.hid ho
  have HR0 := Lib.hid hR
  clear g h hB hd hR hE ho hSF
  unfold fsV zrow at HT
  unfold opRow at HT ⊢
  unfold fsV
  go_enter Tryz.func11, Tryz.ntmps11
  go_upto_region 1 with fail
  obtain ⟨w2, hw2⟩ : ∃ q, ((w.alloc (.cells #[.slice af s.files.length cf, .slice an s.now.length cn, .slice az s.sure.length cs, .slice aa s.acts.length ca, .int .i64 (s.room : Int), .int .i64 (s.steps : Int), .int .i64 (lim s)] 33)).alloc (.cells #[.int .i64 8, .string ⟨x.toArray⟩, .string ⟨y.toArray⟩, vd, .int .i64 n, .int .i64 m] 37)).alloc (.cells #[.slice none 0 0, .slice none 0 0, .slice none 0 0, .slice none 0 0, .int .i64 0, .int .i64 0, .int .i64 0] 33) = q := ⟨_, rfl⟩
  rw [hw2] at HT ⊢
  clear hw2
  obtain ⟨o0, o1, o2, o3, o4, o5⟩ := HT.out.ocells (d := d)
  have HP := Lib.hid (g_stop HT.out.g n HO.out.n)
  go_wp2_with fail
  refine HP.out.mono ?_
  rintro e w3 ⟨rfl, g3, hz3, hk3⟩
  have T3 := Lib.hid (HT.out.prog g3 hz3 hk3)
  clear g3 hz3 hk3 HP HT o0 o1 o2 o3 o4 o5
  obtain ⟨o0, o1, o2, o3, o4, o5⟩ := T3.out.ocells (d := d)
  obtain ⟨q0, q1, q2, q3, q4, q5, q6⟩ := T3.out.box.cells
  have fq := T3.out.box.free
  go_upto_region 30 with fail
  rw [HLM.out]
  have ht := T3.out.one6 (lim ({ s with more := n } : Fs))
  have T5 := Lib.hid ht
  clear ht o0 o1 o2 o3 o4 o5 q0 q1 q2 q3 q4 q5 q6 fq
  generalize w3.setCell ⟨w.heap.size, 6, none⟩ (.int .i64 (lim ({ s with more := n } : Fs))) = w5 at *
  obtain ⟨q0, q1, q2, q3, q4, q5, q6⟩ := T5.out.box.cells
  obtain ⟨r0, r1, r2, r3, r4, r5, r6⟩ := T5.out.rcells
  have fr : ∀ q : Nat, w5.frozen? ⟨w.heap.size + 1 + 1, q, none⟩ = false := frozen_box T5.out.res
  go_wp2_with fail
  obtain ⟨W, hW⟩ : ∃ qq, ((((((w5.setCell ⟨w.heap.size + 1 + 1, 0, none⟩ (.slice af s.files.length cf)).setCell ⟨w.heap.size + 1 + 1, 1, none⟩ (.slice an s.now.length cn)).setCell ⟨w.heap.size + 1 + 1, 2, none⟩ (.slice az s.sure.length cs)).setCell ⟨w.heap.size + 1 + 1, 3, none⟩ (.slice aa s.acts.length ca)).setCell ⟨w.heap.size + 1 + 1, 4, none⟩ (.int .i64 (s.room : Int))).setCell ⟨w.heap.size + 1 + 1, 5, none⟩ (.int .i64 (s.steps : Int))).setCell ⟨w.heap.size + 1 + 1, 6, none⟩ (.int .i64 (lim ({ s with more := n } : Fs))) = qq := ⟨_, rfl⟩
  rw [hW]
  have hfin := T5.out.fin hW
  have HX := Lib.hid hfin.1
  have PW := Lib.hid hfin.2.1
  have GW := Lib.hid hfin.2.2.1
  have FW := Lib.hid hfin.2.2.2
  clear hW hfin q0 q1 q2 q3 q4 q5 q6 r0 r1 r2 r3 r4 r5 r6 fr
  obtain ⟨q0, q1, q2, q3, q4, q5, q6⟩ := HX.out.cells
  clear HX
  refine bodyPost_ret (v := .tuple #[.agg #[.slice af s.files.length cf, .slice an s.now.length cn, .slice az s.sure.length cs, .slice aa s.acts.length ca, .int .i64 (s.room : Int), .int .i64 (s.steps : Int), .int .i64 (lim ({ s with more := n } : Fs))], .bool true]) (by simp [results, Tryz.results11, go_sem, q0, q1, q2, q3, q4, q5, q6]) rfl ⟨_, _, rfl, ?_, GW.out, ?_, ?_, FW.out⟩
  · exact fun k hk => Or.inl hk
  · refine FsV.kept (s := ({ s with more := n } : Fs)) ⟨_, _, _, _, rfl, ⟨HR0.out.files, HR0.out.now, HR0.out.sure, HR0.out.acts⟩⟩ (fun q hq => ?_)
    exact ⟨⟨Or.inl (HSF.out q hq), Or.inl hq⟩, FW.out q (HSF.out q hq)⟩
  · have h1 := PW.out.size
    have h2 := T5.out.sz
    omega
set_option maxRecDepth 100000 in
set_option maxHeartbeats 4000000 in
theorem step_9 {w0 w : World} {F : Nat → Prop} {bf : Nat} {s : Fs} (g : FsG w0 F w bf s) (hB : Bd s) (hE : PEnv w0) (S : Nat → Prop) (hSF : ∀ k, S k → F k) (v : Value) (h : FsV S w v s) (kk : Int) (hk : kk ≠ 0 ∧ kk ≠ 1 ∧ kk ≠ 2 ∧ kk ≠ 3 ∧ kk ≠ 4 ∧ kk ≠ 5 ∧ kk ≠ 6 ∧ kk ≠ 7 ∧ kk ≠ 8) (x y : Nm) (vd : Value) (d : Nm) (n m : Int) (hd : BytesC F w vd d) (ho : OpOk ⟨kk, x, y, d, n, m⟩) :
    Calls Tryz.prog 11 #[.pointer (some ⟨bf, 0, none⟩), v, .agg (opRow ⟨kk, x, y, d, n, m⟩ vd)] w (StP w0 F S w bf (opS s ⟨kk, x, y, d, n, m⟩).1) := by
  obtain ⟨c0, c1, c2, c3, c4, c5, c6, c7, c8⟩ := hk
  have e1 : opS s ⟨kk, x, y, d, n, m⟩ = (s, 0) := by unfold opS; simp only [c0, c1, c2, c3, c4, c5, c6, c7, c8, if_false]
  rw [e1]
  clear e1
  dsimp only
  have y0 : (kk == 0) = false := beq_eq_false_iff_ne.2 c0
  have y1 : (kk == 1) = false := beq_eq_false_iff_ne.2 c1
  have y2 : (kk == 2) = false := beq_eq_false_iff_ne.2 c2
  have y3 : (kk == 3) = false := beq_eq_false_iff_ne.2 c3
  have y4 : (kk == 4) = false := beq_eq_false_iff_ne.2 c4
  have y5 : (kk == 5) = false := beq_eq_false_iff_ne.2 c5
  have y6 : (kk == 6) = false := beq_eq_false_iff_ne.2 c6
  have y7 : (kk == 7) = false := beq_eq_false_iff_ne.2 c7
  have y8 : (kk == 8) = false := beq_eq_false_iff_ne.2 c8
  clear c0 c1 c2 c3 c4 c5 c6 c7 c8
  obtain ⟨af, an, az, aa, cf, cn, cs, ca, rfl, hR⟩ := h.shape
  have HT := Lib.hid (Ss.make g (.slice af s.files.length cf) (.slice an s.now.length cn) (.slice az s.sure.length cs) (.slice aa s.acts.length ca) (s.room : Int) (s.steps : Int) (lim s) (opRow ⟨kk, x, y, d, n, m⟩ vd))
  have HV := Lib.hid h
  have HSF := Lib.hid hSF
  have HB := Lib.hid hB
  have HD := Lib.hid hd
  have HE := Lib.hid hE
  have HO := Lib.hid ho
  have HR0 := Lib.hid hR
  clear g h hB hd hR hE ho hSF
  unfold fsV zrow at HT
  unfold opRow at HT ⊢
  unfold fsV
  go_enter Tryz.func11, Tryz.ntmps11
  go_upto_region 1 with fail
  obtain ⟨w2, hw2⟩ : ∃ q, ((w.alloc (.cells #[.slice af s.files.length cf, .slice an s.now.length cn, .slice az s.sure.length cs, .slice aa s.acts.length ca, .int .i64 (s.room : Int), .int .i64 (s.steps : Int), .int .i64 (lim s)] 33)).alloc (.cells #[.int .i64 kk, .string ⟨x.toArray⟩, .string ⟨y.toArray⟩, vd, .int .i64 n, .int .i64 m] 37)).alloc (.cells #[.slice none 0 0, .slice none 0 0, .slice none 0 0, .slice none 0 0, .int .i64 0, .int .i64 0, .int .i64 0] 33) = q := ⟨_, rfl⟩
  rw [hw2] at HT ⊢
  clear hw2
  obtain ⟨o0, o1, o2, o3, o4, o5⟩ := HT.out.ocells (d := d)
  obtain ⟨q0, q1, q2, q3, q4, q5, q6⟩ := HT.out.box.cells
  obtain ⟨r0, r1, r2, r3, r4, r5, r6⟩ := HT.out.rcells
  have fr : ∀ q : Nat, w2.frozen? ⟨w.heap.size + 1 + 1, q, none⟩ = false := frozen_box HT.out.res
  go_wp2_with fail
  obtain ⟨W, hW⟩ : ∃ qq, ((((((w2.setCell ⟨w.heap.size + 1 + 1, 0, none⟩ (.slice af s.files.length cf)).setCell ⟨w.heap.size + 1 + 1, 1, none⟩ (.slice an s.now.length cn)).setCell ⟨w.heap.size + 1 + 1, 2, none⟩ (.slice az s.sure.length cs)).setCell ⟨w.heap.size + 1 + 1, 3, none⟩ (.slice aa s.acts.length ca)).setCell ⟨w.heap.size + 1 + 1, 4, none⟩ (.int .i64 (s.room : Int))).setCell ⟨w.heap.size + 1 + 1, 5, none⟩ (.int .i64 (s.steps : Int))).setCell ⟨w.heap.size + 1 + 1, 6, none⟩ (.int .i64 (lim s)) = qq := ⟨_, rfl⟩
  rw [hW]
  have hfin := HT.out.fin hW
  have HX := Lib.hid hfin.1
  have PW := Lib.hid hfin.2.1
  have GW := Lib.hid hfin.2.2.1
  have FW := Lib.hid hfin.2.2.2
  clear hW hfin q0 q1 q2 q3 q4 q5 q6 r0 r1 r2 r3 r4 r5 r6 fr
  obtain ⟨q0, q1, q2, q3, q4, q5, q6⟩ := HX.out.cells
  clear HX
  refine bodyPost_ret (v := .tuple #[.agg #[.slice af s.files.length cf, .slice an s.now.length cn, .slice az s.sure.length cs, .slice aa s.acts.length ca, .int .i64 (s.room : Int), .int .i64 (s.steps : Int), .int .i64 (lim s)], .bool true]) (by simp [results, Tryz.results11, go_sem, q0, q1, q2, q3, q4, q5, q6]) rfl ⟨_, _, rfl, ?_, GW.out, ?_, ?_, FW.out⟩
  · exact fun k hk => Or.inl hk
  · refine FsV.kept (s := s) ⟨_, _, _, _, rfl, ⟨HR0.out.files, HR0.out.now, HR0.out.sure, HR0.out.acts⟩⟩ (fun q hq => ?_)
    exact ⟨⟨Or.inl (HSF.out q hq), Or.inl hq⟩, FW.out q (HSF.out q hq)⟩
  · have h1 := PW.out.size
    have h2 := HT.out.sz
    omega
/-- One call at both: the answers are the same, and so are the files behind it. -/
theorem step_any {w0 w : World} {F : Nat → Prop} {bf : Nat} {s : Fs} (g : FsG w0 F w bf s) (hB : Bd s) (hE : PEnv w0) (S : Nat → Prop) (hSF : ∀ k, S k → F k) (v : Value) (h : FsV S w v s) (o : OpL) (vd : Value) (hd : BytesC F w vd o.data) (ho : OpOk o) :
    Calls Tryz.prog 11 #[.pointer (some ⟨bf, 0, none⟩), v, .agg (opRow o vd)] w (StP w0 F S w bf (opS s o).1) := by
  obtain ⟨kk, x, y, d, n, m⟩ := o
  by_cases h0 : kk = 0
  · subst h0; exact step_0 g hB hE S hSF v h x y vd d n m hd ho
  by_cases h1 : kk = 1
  · subst h1; exact step_1 g hB hE S hSF v h x y vd d n m hd ho
  by_cases h2 : kk = 2
  · subst h2; exact step_2 g hB hE S hSF v h x y vd d n m hd ho
  by_cases h3 : kk = 3
  · subst h3; exact step_3 g hB hE S hSF v h x y vd d n m hd ho
  by_cases h4 : kk = 4
  · subst h4; exact step_4 g hB hE S hSF v h x y vd d n m hd ho
  by_cases h5 : kk = 5
  · subst h5; exact step_5 g hB hE S hSF v h x y vd d n m hd ho
  by_cases h6 : kk = 6
  · subst h6; exact step_6 g hB hE S hSF v h x y vd d n m hd ho
  by_cases h7 : kk = 7
  · subst h7; exact step_7 g hB hE S hSF v h x y vd d n m hd ho
  by_cases h8 : kk = 8
  · subst h8; exact step_8 g hB hE S hSF v h x y vd d n m hd ho
  exact step_9 g hB hE S hSF v h kk ⟨h0, h1, h2, h3, h4, h5, h6, h7, h8⟩ x y vd d n m hd ho
end Go.Proofs.YtjefcalndfcmdaaGreatDoor
