/- The laws' step where the two file systems are not the same. -/
import Derived.Test.YtjefcalndfcmdaaGreatDoorVhA
namespace Go.Proofs.YtjefcalndfcmdaaGreatDoor
open Go.RowKit Go.Maps
attribute [local go_sem ↓] Go.wp_at_zero Go.wp_at_succ
def StQ (w0 : World) (F S : Nat → Prop) (w : World) (bf : Nat) (s r : Fs) (e : Ending) (w' : World) : Prop :=
  ∃ v' b F', e = .returned (.tuple #[v', .bool b]) ∧ (∀ k, F k → F' k) ∧ FsG w0 F' w' bf s ∧ FsV (fun k => F' k ∧ (S k ∨ w.heap.size ≤ k)) w' v' r ∧ w.heap.size ≤ w'.heap.size ∧ ∀ k, F k → w'.heap[k]? = w.heap[k]?
set_option maxRecDepth 100000 in
set_option maxHeartbeats 4000000 in
theorem stq_0 {w0 w : World} {F : Nat → Prop} {bf : Nat} {s r : Fs} (g : FsG w0 F w bf s) (hB : Bd s) (hBR : Bd r) (hE : PEnv w0) (S : Nat → Prop) (hSF : ∀ k, S k → F k) (v : Value) (h : FsV S w v r) (x y : Nm) (vd : Value) (d : Nm) (n m : Int) (hd : BytesC F w vd d) (ho : OpOk ⟨0, x, y, d, n, m⟩) :
    Calls Tryz.prog 11 #[.pointer (some ⟨bf, 0, none⟩), v, .agg (opRow ⟨0, x, y, d, n, m⟩ vd)] w (StQ w0 F S w bf (opS s ⟨0, x, y, d, n, m⟩).1 (opS r ⟨0, x, y, d, n, m⟩).1) := by
  have e1 : opS s ⟨0, x, y, d, n, m⟩ = createS s x := rfl
  have e2 : opS r ⟨0, x, y, d, n, m⟩ = createS r x := rfl
  rw [e1, e2]
  clear e1 e2
  obtain ⟨c, hc⟩ : ∃ q, (createS s x).2 = q := ⟨_, rfl⟩
  obtain ⟨p, hp⟩ : ∃ q, (createS s x).1 = q := ⟨_, rfl⟩
  obtain ⟨c2, hc2⟩ : ∃ q, (createS r x).2 = q := ⟨_, rfl⟩
  obtain ⟨u, hu⟩ : ∃ q, (createS r x).1 = q := ⟨_, rfl⟩
  rw [hp, hu]
  obtain ⟨af, an, az, aa, cf, cn, cs, ca, rfl, hR⟩ := h.shape
  have HT := Lib.hid (Ss.make g (.slice af r.files.length cf) (.slice an r.now.length cn) (.slice az r.sure.length cs) (.slice aa r.acts.length ca) (r.room : Int) (r.steps : Int) (lim r) (opRow ⟨0, x, y, d, n, m⟩ vd))
  have HV := Lib.hid h
  have HSF := Lib.hid hSF
  have HB := Lib.hid hB
  have HBR := Lib.hid hBR
  have HD := Lib.hid hd
  have HE := Lib.hid hE
  have HO := Lib.hid ho
  clear g h hB hBR hd hR hE ho hSF
  unfold fsV zrow at HT
  unfold opRow at HT ⊢
  unfold fsV
  go_enter Tryz.func11, Tryz.ntmps11
  go_upto_region 1 with fail
  obtain ⟨w2, hw2⟩ : ∃ q, ((w.alloc (.cells #[.slice af r.files.length cf, .slice an r.now.length cn, .slice az r.sure.length cs, .slice aa r.acts.length ca, .int .i64 (r.room : Int), .int .i64 (r.steps : Int), .int .i64 (lim r)] 33)).alloc (.cells #[.int .i64 0, .string ⟨x.toArray⟩, .string ⟨y.toArray⟩, vd, .int .i64 n, .int .i64 m] 37)).alloc (.cells #[.slice none 0 0, .slice none 0 0, .slice none 0 0, .slice none 0 0, .int .i64 0, .int .i64 0, .int .i64 0] 33) = q := ⟨_, rfl⟩
  rw [hw2] at HT ⊢
  clear hw2
  obtain ⟨o0, o1, o2, o3, o4, o5⟩ := HT.out.ocells (d := d)
  have HP := Lib.hid (g_create HT.out.g (by have h3 := HB.out.st; omega) HE.out x (by have h1 := HO.out.nm; dsimp only at h1; omega))
  rw [hc, hp] at HP
  go_wp2_with fail
  refine HP.out.mono ?_
  rintro e w3 ⟨rfl, g3, hz3, hk3⟩
  have T3 := Lib.hid (HT.out.prog g3 hz3 hk3)
  clear g3 hz3 hk3 HP HT o0 o1 o2 o3 o4 o5
  have HRF := Lib.hid (rCreate_any S _ r x w3 (HV.out.kept (fun k hk => ⟨hk, T3.out.far k (HSF.out k hk)⟩)) (fun k hk => by have h1 := T3.out.fl k (HSF.out k hk); have h2 := T3.out.sz; omega) HBR.out (by have h1 := HO.out.nm; dsimp only at h1; omega))
  rw [hc2, hu] at HRF
  clear hc hp hc2 hu
  unfold fsV at HRF
  obtain ⟨o0, o1, o2, o3, o4, o5⟩ := T3.out.ocells (d := d)
  obtain ⟨q0, q1, q2, q3, q4, q5, q6⟩ := T3.out.box.cells
  go_wp2_with fail
  refine HRF.out.mono ?_
  rintro e w4 ⟨v4, rfl, V4, b4⟩
  obtain ⟨af4, an4, az4, aa4, cf4, cn4, cs4, ca4, rfl, R4⟩ := V4.shape
  have HV4 := Lib.hid R4
  have T4 := Lib.hid (T3.out.ref b4)
  clear R4 V4 b4 HRF o0 o1 o2 o3 o4 o5 q0 q1 q2 q3 q4 q5 q6
  unfold fsV
  obtain ⟨q0, q1, q2, q3, q4, q5, q6⟩ := T4.out.box.cells
  have fq := T4.out.box.free
  go_upto_region 30 with fail
  obtain ⟨w5, hW⟩ : ∃ qq, ((((((w4.setCell ⟨w.heap.size, 0, none⟩ (.slice af4 u.files.length cf4)).setCell ⟨w.heap.size, 1, none⟩ (.slice an4 u.now.length cn4)).setCell ⟨w.heap.size, 2, none⟩ (.slice az4 u.sure.length cs4)).setCell ⟨w.heap.size, 3, none⟩ (.slice aa4 u.acts.length ca4)).setCell ⟨w.heap.size, 4, none⟩ (.int .i64 (u.room : Int))).setCell ⟨w.heap.size, 5, none⟩ (.int .i64 (u.steps : Int))).setCell ⟨w.heap.size, 6, none⟩ (.int .i64 (lim u)) = qq := ⟨_, rfl⟩
  rw [hW]
  have ht := T4.out.put hW
  have T5 := Lib.hid ht.1
  have P5 := Lib.hid ht.2
  clear hW ht q0 q1 q2 q3 q4 q5 q6 fq T4
  obtain ⟨q0, q1, q2, q3, q4, q5, q6⟩ := T5.out.box.cells
  obtain ⟨r0, r1, r2, r3, r4, r5, r6⟩ := T5.out.rcells
  have fr : ∀ q : Nat, w5.frozen? ⟨w.heap.size + 1 + 1, q, none⟩ = false := frozen_box T5.out.res
  go_wp2_with fail
  obtain ⟨W, hW⟩ : ∃ qq, ((((((w5.setCell ⟨w.heap.size + 1 + 1, 0, none⟩ (.slice af4 u.files.length cf4)).setCell ⟨w.heap.size + 1 + 1, 1, none⟩ (.slice an4 u.now.length cn4)).setCell ⟨w.heap.size + 1 + 1, 2, none⟩ (.slice az4 u.sure.length cs4)).setCell ⟨w.heap.size + 1 + 1, 3, none⟩ (.slice aa4 u.acts.length ca4)).setCell ⟨w.heap.size + 1 + 1, 4, none⟩ (.int .i64 (u.room : Int))).setCell ⟨w.heap.size + 1 + 1, 5, none⟩ (.int .i64 (u.steps : Int))).setCell ⟨w.heap.size + 1 + 1, 6, none⟩ (.int .i64 (lim u)) = qq := ⟨_, rfl⟩
  rw [hW]
  have hfin := T5.out.fin hW
  have HX := Lib.hid hfin.1
  have PW := Lib.hid hfin.2.1
  have GW := Lib.hid hfin.2.2.1
  have FW := Lib.hid hfin.2.2.2
  clear hW hfin q0 q1 q2 q3 q4 q5 q6 r0 r1 r2 r3 r4 r5 r6 fr
  obtain ⟨q0, q1, q2, q3, q4, q5, q6⟩ := HX.out.cells
  clear HX
  refine bodyPost_ret (v := .tuple #[.agg #[.slice af4 u.files.length cf4, .slice an4 u.now.length cn4, .slice az4 u.sure.length cs4, .slice aa4 u.acts.length ca4, .int .i64 (u.room : Int), .int .i64 (u.steps : Int), .int .i64 (lim u)], .bool (c == c2)]) (by simp [results, Tryz.results11, go_sem, q0, q1, q2, q3, q4, q5, q6]) rfl ⟨_, _, _, rfl, ?_, GW.out, ?_, ?_, FW.out⟩
  · exact fun k hk => Or.inl (Or.inl hk)
  · have h4 := HV4.out
    have hz3 := T3.out.sz
    refine FsV.kept (s := u) ⟨_, _, _, _, rfl, h4⟩ (fun q hq => ?_)
    rcases hq with hq | hq
    · have hl := T3.out.fl q (HSF.out q hq)
      exact ⟨⟨Or.inl (Or.inl (HSF.out q hq)), Or.inl hq⟩, (PW.out.far (by omega)).trans (P5.out.far (by omega))⟩
    · exact ⟨⟨Or.inr hq, Or.inr (by omega)⟩, (PW.out.far (by omega)).trans (P5.out.far (by omega))⟩
  · have h1 := PW.out.size
    have h2 := T5.out.sz
    omega
set_option maxRecDepth 100000 in
set_option maxHeartbeats 4000000 in
theorem stq_1 {w0 w : World} {F : Nat → Prop} {bf : Nat} {s r : Fs} (g : FsG w0 F w bf s) (hB : Bd s) (hBR : Bd r) (hE : PEnv w0) (S : Nat → Prop) (hSF : ∀ k, S k → F k) (v : Value) (h : FsV S w v r) (x y : Nm) (vd : Value) (d : Nm) (n m : Int) (hd : BytesC F w vd d) (ho : OpOk ⟨1, x, y, d, n, m⟩) :
    Calls Tryz.prog 11 #[.pointer (some ⟨bf, 0, none⟩), v, .agg (opRow ⟨1, x, y, d, n, m⟩ vd)] w (StQ w0 F S w bf (opS s ⟨1, x, y, d, n, m⟩).1 (opS r ⟨1, x, y, d, n, m⟩).1) := by
  have e1 : opS s ⟨1, x, y, d, n, m⟩ = appendS s x d := rfl
  have e2 : opS r ⟨1, x, y, d, n, m⟩ = appendS r x d := rfl
  rw [e1, e2]
  clear e1 e2
  obtain ⟨c, hc⟩ : ∃ q, (appendS s x d).2 = q := ⟨_, rfl⟩
  obtain ⟨p, hp⟩ : ∃ q, (appendS s x d).1 = q := ⟨_, rfl⟩
  obtain ⟨c2, hc2⟩ : ∃ q, (appendS r x d).2 = q := ⟨_, rfl⟩
  obtain ⟨u, hu⟩ : ∃ q, (appendS r x d).1 = q := ⟨_, rfl⟩
  rw [hp, hu]
  obtain ⟨af, an, az, aa, cf, cn, cs, ca, rfl, hR⟩ := h.shape
  have HT := Lib.hid (Ss.make g (.slice af r.files.length cf) (.slice an r.now.length cn) (.slice az r.sure.length cs) (.slice aa r.acts.length ca) (r.room : Int) (r.steps : Int) (lim r) (opRow ⟨1, x, y, d, n, m⟩ vd))
  have HV := Lib.hid h
  have HSF := Lib.hid hSF
  have HB := Lib.hid hB
  have HBR := Lib.hid hBR
  have HD := Lib.hid hd
  have HE := Lib.hid hE
  have HO := Lib.hid ho
  clear g h hB hBR hd hR hE ho hSF
  unfold fsV zrow at HT
  unfold opRow at HT ⊢
  unfold fsV
  go_enter Tryz.func11, Tryz.ntmps11
  go_upto_region 1 with fail
  obtain ⟨w2, hw2⟩ : ∃ q, ((w.alloc (.cells #[.slice af r.files.length cf, .slice an r.now.length cn, .slice az r.sure.length cs, .slice aa r.acts.length ca, .int .i64 (r.room : Int), .int .i64 (r.steps : Int), .int .i64 (lim r)] 33)).alloc (.cells #[.int .i64 1, .string ⟨x.toArray⟩, .string ⟨y.toArray⟩, vd, .int .i64 n, .int .i64 m] 37)).alloc (.cells #[.slice none 0 0, .slice none 0 0, .slice none 0 0, .slice none 0 0, .int .i64 0, .int .i64 0, .int .i64 0] 33) = q := ⟨_, rfl⟩
  rw [hw2] at HT ⊢
  clear hw2
  obtain ⟨o0, o1, o2, o3, o4, o5⟩ := HT.out.ocells (d := d)
  have HP := Lib.hid (g_append HT.out.g (by have h3 := HB.out.st; omega) x (by have h1 := HO.out.nm; dsimp only at h1; omega) F vd d (HD.out.kept (S' := F) (w' := w2) (fun k hk => ⟨hk, HT.out.far k hk⟩)) (fun k hk => Or.inr (HT.out.inc k hk)) (by have h1 := HO.out.dt; dsimp only at h1; omega))
  rw [hc, hp] at HP
  go_wp2_with fail
  refine HP.out.mono ?_
  rintro e w3 ⟨rfl, g3, hz3, hk3⟩
  have T3 := Lib.hid (HT.out.prog g3 hz3 hk3)
  clear g3 hz3 hk3 HP HT o0 o1 o2 o3 o4 o5
  have HRF := Lib.hid (rAppend_any S _ r x d w3 (HV.out.kept (fun k hk => ⟨hk, T3.out.far k (HSF.out k hk)⟩)) (fun k hk => by have h1 := T3.out.fl k (HSF.out k hk); have h2 := T3.out.sz; omega) HBR.out (by have h1 := HO.out.dt; dsimp only at h1; omega))
  rw [hc2, hu] at HRF
  clear hc hp hc2 hu
  unfold fsV at HRF
  obtain ⟨o0, o1, o2, o3, o4, o5⟩ := T3.out.ocells (d := d)
  obtain ⟨q0, q1, q2, q3, q4, q5, q6⟩ := T3.out.box.cells
  have hcv := bytes_str (HD.out.kept (S' := F) (w' := w3) (fun k hk => ⟨hk, T3.out.far k hk⟩))
  go_wp2_with fail
  refine HRF.out.mono ?_
  rintro e w4 ⟨v4, rfl, V4, b4⟩
  obtain ⟨af4, an4, az4, aa4, cf4, cn4, cs4, ca4, rfl, R4⟩ := V4.shape
  have HV4 := Lib.hid R4
  have T4 := Lib.hid (T3.out.ref b4)
  clear hcv R4 V4 b4 HRF o0 o1 o2 o3 o4 o5 q0 q1 q2 q3 q4 q5 q6
  unfold fsV
  obtain ⟨q0, q1, q2, q3, q4, q5, q6⟩ := T4.out.box.cells
  have fq := T4.out.box.free
  go_upto_region 30 with fail
  obtain ⟨w5, hW⟩ : ∃ qq, ((((((w4.setCell ⟨w.heap.size, 0, none⟩ (.slice af4 u.files.length cf4)).setCell ⟨w.heap.size, 1, none⟩ (.slice an4 u.now.length cn4)).setCell ⟨w.heap.size, 2, none⟩ (.slice az4 u.sure.length cs4)).setCell ⟨w.heap.size, 3, none⟩ (.slice aa4 u.acts.length ca4)).setCell ⟨w.heap.size, 4, none⟩ (.int .i64 (u.room : Int))).setCell ⟨w.heap.size, 5, none⟩ (.int .i64 (u.steps : Int))).setCell ⟨w.heap.size, 6, none⟩ (.int .i64 (lim u)) = qq := ⟨_, rfl⟩
  rw [hW]
  have ht := T4.out.put hW
  have T5 := Lib.hid ht.1
  have P5 := Lib.hid ht.2
  clear hW ht q0 q1 q2 q3 q4 q5 q6 fq T4
  obtain ⟨q0, q1, q2, q3, q4, q5, q6⟩ := T5.out.box.cells
  obtain ⟨r0, r1, r2, r3, r4, r5, r6⟩ := T5.out.rcells
  have fr : ∀ q : Nat, w5.frozen? ⟨w.heap.size + 1 + 1, q, none⟩ = false := frozen_box T5.out.res
  go_wp2_with fail
  obtain ⟨W, hW⟩ : ∃ qq, ((((((w5.setCell ⟨w.heap.size + 1 + 1, 0, none⟩ (.slice af4 u.files.length cf4)).setCell ⟨w.heap.size + 1 + 1, 1, none⟩ (.slice an4 u.now.length cn4)).setCell ⟨w.heap.size + 1 + 1, 2, none⟩ (.slice az4 u.sure.length cs4)).setCell ⟨w.heap.size + 1 + 1, 3, none⟩ (.slice aa4 u.acts.length ca4)).setCell ⟨w.heap.size + 1 + 1, 4, none⟩ (.int .i64 (u.room : Int))).setCell ⟨w.heap.size + 1 + 1, 5, none⟩ (.int .i64 (u.steps : Int))).setCell ⟨w.heap.size + 1 + 1, 6, none⟩ (.int .i64 (lim u)) = qq := ⟨_, rfl⟩
  rw [hW]
  have hfin := T5.out.fin hW
  have HX := Lib.hid hfin.1
  have PW := Lib.hid hfin.2.1
  have GW := Lib.hid hfin.2.2.1
  have FW := Lib.hid hfin.2.2.2
  clear hW hfin q0 q1 q2 q3 q4 q5 q6 r0 r1 r2 r3 r4 r5 r6 fr
  obtain ⟨q0, q1, q2, q3, q4, q5, q6⟩ := HX.out.cells
  clear HX
  refine bodyPost_ret (v := .tuple #[.agg #[.slice af4 u.files.length cf4, .slice an4 u.now.length cn4, .slice az4 u.sure.length cs4, .slice aa4 u.acts.length ca4, .int .i64 (u.room : Int), .int .i64 (u.steps : Int), .int .i64 (lim u)], .bool (c == c2)]) (by simp [results, Tryz.results11, go_sem, q0, q1, q2, q3, q4, q5, q6]) rfl ⟨_, _, _, rfl, ?_, GW.out, ?_, ?_, FW.out⟩
  · exact fun k hk => Or.inl (Or.inl hk)
  · have h4 := HV4.out
    have hz3 := T3.out.sz
    refine FsV.kept (s := u) ⟨_, _, _, _, rfl, h4⟩ (fun q hq => ?_)
    rcases hq with hq | hq
    · have hl := T3.out.fl q (HSF.out q hq)
      exact ⟨⟨Or.inl (Or.inl (HSF.out q hq)), Or.inl hq⟩, (PW.out.far (by omega)).trans (P5.out.far (by omega))⟩
    · exact ⟨⟨Or.inr hq, Or.inr (by omega)⟩, (PW.out.far (by omega)).trans (P5.out.far (by omega))⟩
  · have h1 := PW.out.size
    have h2 := T5.out.sz
    omega
set_option maxRecDepth 100000 in
set_option maxHeartbeats 4000000 in
theorem stq_2 {w0 w : World} {F : Nat → Prop} {bf : Nat} {s r : Fs} (g : FsG w0 F w bf s) (hB : Bd s) (hBR : Bd r) (hE : PEnv w0) (S : Nat → Prop) (hSF : ∀ k, S k → F k) (v : Value) (h : FsV S w v r) (x y : Nm) (vd : Value) (d : Nm) (n m : Int) (hd : BytesC F w vd d) (ho : OpOk ⟨2, x, y, d, n, m⟩) :
    Calls Tryz.prog 11 #[.pointer (some ⟨bf, 0, none⟩), v, .agg (opRow ⟨2, x, y, d, n, m⟩ vd)] w (StQ w0 F S w bf (opS s ⟨2, x, y, d, n, m⟩).1 (opS r ⟨2, x, y, d, n, m⟩).1) := by
  have e1 : opS s ⟨2, x, y, d, n, m⟩ = cutS s x n := rfl
  have e2 : opS r ⟨2, x, y, d, n, m⟩ = cutS r x n := rfl
  rw [e1, e2]
  clear e1 e2
  obtain ⟨c, hc⟩ : ∃ q, (cutS s x n).2 = q := ⟨_, rfl⟩
  obtain ⟨p, hp⟩ : ∃ q, (cutS s x n).1 = q := ⟨_, rfl⟩
  obtain ⟨c2, hc2⟩ : ∃ q, (cutS r x n).2 = q := ⟨_, rfl⟩
  obtain ⟨u, hu⟩ : ∃ q, (cutS r x n).1 = q := ⟨_, rfl⟩
  rw [hp, hu]
  obtain ⟨af, an, az, aa, cf, cn, cs, ca, rfl, hR⟩ := h.shape
  have HT := Lib.hid (Ss.make g (.slice af r.files.length cf) (.slice an r.now.length cn) (.slice az r.sure.length cs) (.slice aa r.acts.length ca) (r.room : Int) (r.steps : Int) (lim r) (opRow ⟨2, x, y, d, n, m⟩ vd))
  have HV := Lib.hid h
  have HSF := Lib.hid hSF
  have HB := Lib.hid hB
  have HBR := Lib.hid hBR
  have HD := Lib.hid hd
  have HE := Lib.hid hE
  have HO := Lib.hid ho
  clear g h hB hBR hd hR hE ho hSF
  unfold fsV zrow at HT
  unfold opRow at HT ⊢
  unfold fsV
  go_enter Tryz.func11, Tryz.ntmps11
  go_upto_region 1 with fail
  obtain ⟨w2, hw2⟩ : ∃ q, ((w.alloc (.cells #[.slice af r.files.length cf, .slice an r.now.length cn, .slice az r.sure.length cs, .slice aa r.acts.length ca, .int .i64 (r.room : Int), .int .i64 (r.steps : Int), .int .i64 (lim r)] 33)).alloc (.cells #[.int .i64 2, .string ⟨x.toArray⟩, .string ⟨y.toArray⟩, vd, .int .i64 n, .int .i64 m] 37)).alloc (.cells #[.slice none 0 0, .slice none 0 0, .slice none 0 0, .slice none 0 0, .int .i64 0, .int .i64 0, .int .i64 0] 33) = q := ⟨_, rfl⟩
  rw [hw2] at HT ⊢
  clear hw2
  obtain ⟨o0, o1, o2, o3, o4, o5⟩ := HT.out.ocells (d := d)
  have HP := Lib.hid (g_cut HT.out.g (by have h3 := HB.out.st; omega) x (by have h1 := HO.out.nm; dsimp only at h1; omega) n)
  rw [hc, hp] at HP
  go_wp2_with fail
  refine HP.out.mono ?_
  rintro e w3 ⟨rfl, g3, hz3, hk3⟩
  have T3 := Lib.hid (HT.out.prog g3 hz3 hk3)
  clear g3 hz3 hk3 HP HT o0 o1 o2 o3 o4 o5
  have HRF := Lib.hid (rCut_any S _ r x n w3 (HV.out.kept (fun k hk => ⟨hk, T3.out.far k (HSF.out k hk)⟩)) (fun k hk => by have h1 := T3.out.fl k (HSF.out k hk); have h2 := T3.out.sz; omega) HBR.out)
  rw [hc2, hu] at HRF
  clear hc hp hc2 hu
  unfold fsV at HRF
  obtain ⟨o0, o1, o2, o3, o4, o5⟩ := T3.out.ocells (d := d)
  obtain ⟨q0, q1, q2, q3, q4, q5, q6⟩ := T3.out.box.cells
  go_wp2_with fail
  refine HRF.out.mono ?_
  rintro e w4 ⟨v4, rfl, V4, b4⟩
  obtain ⟨af4, an4, az4, aa4, cf4, cn4, cs4, ca4, rfl, R4⟩ := V4.shape
  have HV4 := Lib.hid R4
  have T4 := Lib.hid (T3.out.ref b4)
  clear R4 V4 b4 HRF o0 o1 o2 o3 o4 o5 q0 q1 q2 q3 q4 q5 q6
  unfold fsV
  obtain ⟨q0, q1, q2, q3, q4, q5, q6⟩ := T4.out.box.cells
  have fq := T4.out.box.free
  go_upto_region 30 with fail
  obtain ⟨w5, hW⟩ : ∃ qq, ((((((w4.setCell ⟨w.heap.size, 0, none⟩ (.slice af4 u.files.length cf4)).setCell ⟨w.heap.size, 1, none⟩ (.slice an4 u.now.length cn4)).setCell ⟨w.heap.size, 2, none⟩ (.slice az4 u.sure.length cs4)).setCell ⟨w.heap.size, 3, none⟩ (.slice aa4 u.acts.length ca4)).setCell ⟨w.heap.size, 4, none⟩ (.int .i64 (u.room : Int))).setCell ⟨w.heap.size, 5, none⟩ (.int .i64 (u.steps : Int))).setCell ⟨w.heap.size, 6, none⟩ (.int .i64 (lim u)) = qq := ⟨_, rfl⟩
  rw [hW]
  have ht := T4.out.put hW
  have T5 := Lib.hid ht.1
  have P5 := Lib.hid ht.2
  clear hW ht q0 q1 q2 q3 q4 q5 q6 fq T4
  obtain ⟨q0, q1, q2, q3, q4, q5, q6⟩ := T5.out.box.cells
  obtain ⟨r0, r1, r2, r3, r4, r5, r6⟩ := T5.out.rcells
  have fr : ∀ q : Nat, w5.frozen? ⟨w.heap.size + 1 + 1, q, none⟩ = false := frozen_box T5.out.res
  go_wp2_with fail
  obtain ⟨W, hW⟩ : ∃ qq, ((((((w5.setCell ⟨w.heap.size + 1 + 1, 0, none⟩ (.slice af4 u.files.length cf4)).setCell ⟨w.heap.size + 1 + 1, 1, none⟩ (.slice an4 u.now.length cn4)).setCell ⟨w.heap.size + 1 + 1, 2, none⟩ (.slice az4 u.sure.length cs4)).setCell ⟨w.heap.size + 1 + 1, 3, none⟩ (.slice aa4 u.acts.length ca4)).setCell ⟨w.heap.size + 1 + 1, 4, none⟩ (.int .i64 (u.room : Int))).setCell ⟨w.heap.size + 1 + 1, 5, none⟩ (.int .i64 (u.steps : Int))).setCell ⟨w.heap.size + 1 + 1, 6, none⟩ (.int .i64 (lim u)) = qq := ⟨_, rfl⟩
  rw [hW]
  have hfin := T5.out.fin hW
  have HX := Lib.hid hfin.1
  have PW := Lib.hid hfin.2.1
  have GW := Lib.hid hfin.2.2.1
  have FW := Lib.hid hfin.2.2.2
  clear hW hfin q0 q1 q2 q3 q4 q5 q6 r0 r1 r2 r3 r4 r5 r6 fr
  obtain ⟨q0, q1, q2, q3, q4, q5, q6⟩ := HX.out.cells
  clear HX
  refine bodyPost_ret (v := .tuple #[.agg #[.slice af4 u.files.length cf4, .slice an4 u.now.length cn4, .slice az4 u.sure.length cs4, .slice aa4 u.acts.length ca4, .int .i64 (u.room : Int), .int .i64 (u.steps : Int), .int .i64 (lim u)], .bool (c == c2)]) (by simp [results, Tryz.results11, go_sem, q0, q1, q2, q3, q4, q5, q6]) rfl ⟨_, _, _, rfl, ?_, GW.out, ?_, ?_, FW.out⟩
  · exact fun k hk => Or.inl (Or.inl hk)
  · have h4 := HV4.out
    have hz3 := T3.out.sz
    refine FsV.kept (s := u) ⟨_, _, _, _, rfl, h4⟩ (fun q hq => ?_)
    rcases hq with hq | hq
    · have hl := T3.out.fl q (HSF.out q hq)
      exact ⟨⟨Or.inl (Or.inl (HSF.out q hq)), Or.inl hq⟩, (PW.out.far (by omega)).trans (P5.out.far (by omega))⟩
    · exact ⟨⟨Or.inr hq, Or.inr (by omega)⟩, (PW.out.far (by omega)).trans (P5.out.far (by omega))⟩
  · have h1 := PW.out.size
    have h2 := T5.out.sz
    omega
set_option maxRecDepth 100000 in
set_option maxHeartbeats 4000000 in
theorem stq_3 {w0 w : World} {F : Nat → Prop} {bf : Nat} {s r : Fs} (g : FsG w0 F w bf s) (hB : Bd s) (hBR : Bd r) (hE : PEnv w0) (S : Nat → Prop) (hSF : ∀ k, S k → F k) (v : Value) (h : FsV S w v r) (x y : Nm) (vd : Value) (d : Nm) (n m : Int) (hd : BytesC F w vd d) (ho : OpOk ⟨3, x, y, d, n, m⟩) :
    Calls Tryz.prog 11 #[.pointer (some ⟨bf, 0, none⟩), v, .agg (opRow ⟨3, x, y, d, n, m⟩ vd)] w (StQ w0 F S w bf (opS s ⟨3, x, y, d, n, m⟩).1 (opS r ⟨3, x, y, d, n, m⟩).1) := by
  have e1 : opS s ⟨3, x, y, d, n, m⟩ = syncS s x := rfl
  have e2 : opS r ⟨3, x, y, d, n, m⟩ = syncS r x := rfl
  rw [e1, e2]
  clear e1 e2
  obtain ⟨c, hc⟩ : ∃ q, (syncS s x).2 = q := ⟨_, rfl⟩
  obtain ⟨p, hp⟩ : ∃ q, (syncS s x).1 = q := ⟨_, rfl⟩
  obtain ⟨c2, hc2⟩ : ∃ q, (syncS r x).2 = q := ⟨_, rfl⟩
  obtain ⟨u, hu⟩ : ∃ q, (syncS r x).1 = q := ⟨_, rfl⟩
  rw [hp, hu]
  obtain ⟨af, an, az, aa, cf, cn, cs, ca, rfl, hR⟩ := h.shape
  have HT := Lib.hid (Ss.make g (.slice af r.files.length cf) (.slice an r.now.length cn) (.slice az r.sure.length cs) (.slice aa r.acts.length ca) (r.room : Int) (r.steps : Int) (lim r) (opRow ⟨3, x, y, d, n, m⟩ vd))
  have HV := Lib.hid h
  have HSF := Lib.hid hSF
  have HB := Lib.hid hB
  have HBR := Lib.hid hBR
  have HD := Lib.hid hd
  have HE := Lib.hid hE
  have HO := Lib.hid ho
  clear g h hB hBR hd hR hE ho hSF
  unfold fsV zrow at HT
  unfold opRow at HT ⊢
  unfold fsV
  go_enter Tryz.func11, Tryz.ntmps11
  go_upto_region 1 with fail
  obtain ⟨w2, hw2⟩ : ∃ q, ((w.alloc (.cells #[.slice af r.files.length cf, .slice an r.now.length cn, .slice az r.sure.length cs, .slice aa r.acts.length ca, .int .i64 (r.room : Int), .int .i64 (r.steps : Int), .int .i64 (lim r)] 33)).alloc (.cells #[.int .i64 3, .string ⟨x.toArray⟩, .string ⟨y.toArray⟩, vd, .int .i64 n, .int .i64 m] 37)).alloc (.cells #[.slice none 0 0, .slice none 0 0, .slice none 0 0, .slice none 0 0, .int .i64 0, .int .i64 0, .int .i64 0] 33) = q := ⟨_, rfl⟩
  rw [hw2] at HT ⊢
  clear hw2
  obtain ⟨o0, o1, o2, o3, o4, o5⟩ := HT.out.ocells (d := d)
  have HP := Lib.hid (g_sync HT.out.g (by have h3 := HB.out.st; omega) x (by have h1 := HO.out.nm; dsimp only at h1; omega))
  rw [hc, hp] at HP
  go_wp2_with fail
  refine HP.out.mono ?_
  rintro e w3 ⟨rfl, g3, hz3, hk3⟩
  have T3 := Lib.hid (HT.out.prog g3 hz3 hk3)
  clear g3 hz3 hk3 HP HT o0 o1 o2 o3 o4 o5
  have HRF := Lib.hid (rSync_any S _ r x w3 (HV.out.kept (fun k hk => ⟨hk, T3.out.far k (HSF.out k hk)⟩)) (fun k hk => by have h1 := T3.out.fl k (HSF.out k hk); have h2 := T3.out.sz; omega) HBR.out)
  rw [hc2, hu] at HRF
  clear hc hp hc2 hu
  unfold fsV at HRF
  obtain ⟨o0, o1, o2, o3, o4, o5⟩ := T3.out.ocells (d := d)
  obtain ⟨q0, q1, q2, q3, q4, q5, q6⟩ := T3.out.box.cells
  go_wp2_with fail
  refine HRF.out.mono ?_
  rintro e w4 ⟨v4, rfl, V4, b4⟩
  obtain ⟨af4, an4, az4, aa4, cf4, cn4, cs4, ca4, rfl, R4⟩ := V4.shape
  have HV4 := Lib.hid R4
  have T4 := Lib.hid (T3.out.ref b4)
  clear R4 V4 b4 HRF o0 o1 o2 o3 o4 o5 q0 q1 q2 q3 q4 q5 q6
  unfold fsV
  obtain ⟨q0, q1, q2, q3, q4, q5, q6⟩ := T4.out.box.cells
  have fq := T4.out.box.free
  go_upto_region 30 with fail
  obtain ⟨w5, hW⟩ : ∃ qq, ((((((w4.setCell ⟨w.heap.size, 0, none⟩ (.slice af4 u.files.length cf4)).setCell ⟨w.heap.size, 1, none⟩ (.slice an4 u.now.length cn4)).setCell ⟨w.heap.size, 2, none⟩ (.slice az4 u.sure.length cs4)).setCell ⟨w.heap.size, 3, none⟩ (.slice aa4 u.acts.length ca4)).setCell ⟨w.heap.size, 4, none⟩ (.int .i64 (u.room : Int))).setCell ⟨w.heap.size, 5, none⟩ (.int .i64 (u.steps : Int))).setCell ⟨w.heap.size, 6, none⟩ (.int .i64 (lim u)) = qq := ⟨_, rfl⟩
  rw [hW]
  have ht := T4.out.put hW
  have T5 := Lib.hid ht.1
  have P5 := Lib.hid ht.2
  clear hW ht q0 q1 q2 q3 q4 q5 q6 fq T4
  obtain ⟨q0, q1, q2, q3, q4, q5, q6⟩ := T5.out.box.cells
  obtain ⟨r0, r1, r2, r3, r4, r5, r6⟩ := T5.out.rcells
  have fr : ∀ q : Nat, w5.frozen? ⟨w.heap.size + 1 + 1, q, none⟩ = false := frozen_box T5.out.res
  go_wp2_with fail
  obtain ⟨W, hW⟩ : ∃ qq, ((((((w5.setCell ⟨w.heap.size + 1 + 1, 0, none⟩ (.slice af4 u.files.length cf4)).setCell ⟨w.heap.size + 1 + 1, 1, none⟩ (.slice an4 u.now.length cn4)).setCell ⟨w.heap.size + 1 + 1, 2, none⟩ (.slice az4 u.sure.length cs4)).setCell ⟨w.heap.size + 1 + 1, 3, none⟩ (.slice aa4 u.acts.length ca4)).setCell ⟨w.heap.size + 1 + 1, 4, none⟩ (.int .i64 (u.room : Int))).setCell ⟨w.heap.size + 1 + 1, 5, none⟩ (.int .i64 (u.steps : Int))).setCell ⟨w.heap.size + 1 + 1, 6, none⟩ (.int .i64 (lim u)) = qq := ⟨_, rfl⟩
  rw [hW]
  have hfin := T5.out.fin hW
  have HX := Lib.hid hfin.1
  have PW := Lib.hid hfin.2.1
  have GW := Lib.hid hfin.2.2.1
  have FW := Lib.hid hfin.2.2.2
  clear hW hfin q0 q1 q2 q3 q4 q5 q6 r0 r1 r2 r3 r4 r5 r6 fr
  obtain ⟨q0, q1, q2, q3, q4, q5, q6⟩ := HX.out.cells
  clear HX
  refine bodyPost_ret (v := .tuple #[.agg #[.slice af4 u.files.length cf4, .slice an4 u.now.length cn4, .slice az4 u.sure.length cs4, .slice aa4 u.acts.length ca4, .int .i64 (u.room : Int), .int .i64 (u.steps : Int), .int .i64 (lim u)], .bool (c == c2)]) (by simp [results, Tryz.results11, go_sem, q0, q1, q2, q3, q4, q5, q6]) rfl ⟨_, _, _, rfl, ?_, GW.out, ?_, ?_, FW.out⟩
  · exact fun k hk => Or.inl (Or.inl hk)
  · have h4 := HV4.out
    have hz3 := T3.out.sz
    refine FsV.kept (s := u) ⟨_, _, _, _, rfl, h4⟩ (fun q hq => ?_)
    rcases hq with hq | hq
    · have hl := T3.out.fl q (HSF.out q hq)
      exact ⟨⟨Or.inl (Or.inl (HSF.out q hq)), Or.inl hq⟩, (PW.out.far (by omega)).trans (P5.out.far (by omega))⟩
    · exact ⟨⟨Or.inr hq, Or.inr (by omega)⟩, (PW.out.far (by omega)).trans (P5.out.far (by omega))⟩
  · have h1 := PW.out.size
    have h2 := T5.out.sz
    omega
set_option maxRecDepth 100000 in
set_option maxHeartbeats 4000000 in
theorem stq_4 {w0 w : World} {F : Nat → Prop} {bf : Nat} {s r : Fs} (g : FsG w0 F w bf s) (hB : Bd s) (hBR : Bd r) (hE : PEnv w0) (S : Nat → Prop) (hSF : ∀ k, S k → F k) (v : Value) (h : FsV S w v r) (x y : Nm) (vd : Value) (d : Nm) (n m : Int) (hd : BytesC F w vd d) (ho : OpOk ⟨4, x, y, d, n, m⟩) :
    Calls Tryz.prog 11 #[.pointer (some ⟨bf, 0, none⟩), v, .agg (opRow ⟨4, x, y, d, n, m⟩ vd)] w (StQ w0 F S w bf (opS s ⟨4, x, y, d, n, m⟩).1 (opS r ⟨4, x, y, d, n, m⟩).1) := by
  have e1 : opS s ⟨4, x, y, d, n, m⟩ = renameS s x y := rfl
  have e2 : opS r ⟨4, x, y, d, n, m⟩ = renameS r x y := rfl
  rw [e1, e2]
  clear e1 e2
  obtain ⟨c, hc⟩ : ∃ q, (renameS s x y).2 = q := ⟨_, rfl⟩
  obtain ⟨p, hp⟩ : ∃ q, (renameS s x y).1 = q := ⟨_, rfl⟩
  obtain ⟨c2, hc2⟩ : ∃ q, (renameS r x y).2 = q := ⟨_, rfl⟩
  obtain ⟨u, hu⟩ : ∃ q, (renameS r x y).1 = q := ⟨_, rfl⟩
  rw [hp, hu]
  obtain ⟨af, an, az, aa, cf, cn, cs, ca, rfl, hR⟩ := h.shape
  have HT := Lib.hid (Ss.make g (.slice af r.files.length cf) (.slice an r.now.length cn) (.slice az r.sure.length cs) (.slice aa r.acts.length ca) (r.room : Int) (r.steps : Int) (lim r) (opRow ⟨4, x, y, d, n, m⟩ vd))
  have HV := Lib.hid h
  have HSF := Lib.hid hSF
  have HB := Lib.hid hB
  have HBR := Lib.hid hBR
  have HD := Lib.hid hd
  have HE := Lib.hid hE
  have HO := Lib.hid ho
  clear g h hB hBR hd hR hE ho hSF
  unfold fsV zrow at HT
  unfold opRow at HT ⊢
  unfold fsV
  go_enter Tryz.func11, Tryz.ntmps11
  go_upto_region 1 with fail
  obtain ⟨w2, hw2⟩ : ∃ q, ((w.alloc (.cells #[.slice af r.files.length cf, .slice an r.now.length cn, .slice az r.sure.length cs, .slice aa r.acts.length ca, .int .i64 (r.room : Int), .int .i64 (r.steps : Int), .int .i64 (lim r)] 33)).alloc (.cells #[.int .i64 4, .string ⟨x.toArray⟩, .string ⟨y.toArray⟩, vd, .int .i64 n, .int .i64 m] 37)).alloc (.cells #[.slice none 0 0, .slice none 0 0, .slice none 0 0, .slice none 0 0, .int .i64 0, .int .i64 0, .int .i64 0] 33) = q := ⟨_, rfl⟩
  rw [hw2] at HT ⊢
  clear hw2
  obtain ⟨o0, o1, o2, o3, o4, o5⟩ := HT.out.ocells (d := d)
  have HP := Lib.hid (g_rename HT.out.g (by have h3 := HB.out.st; omega) HE.out x y (by have h1 := HO.out.nm; dsimp only at h1; omega) (by have h1 := HO.out.dest; dsimp only at h1; omega))
  rw [hc, hp] at HP
  go_wp2_with fail
  refine HP.out.mono ?_
  rintro e w3 ⟨rfl, g3, hz3, hk3⟩
  have T3 := Lib.hid (HT.out.prog g3 hz3 hk3)
  clear g3 hz3 hk3 HP HT o0 o1 o2 o3 o4 o5
  have HRF := Lib.hid (rRename_any S _ r x y w3 (HV.out.kept (fun k hk => ⟨hk, T3.out.far k (HSF.out k hk)⟩)) (fun k hk => by have h1 := T3.out.fl k (HSF.out k hk); have h2 := T3.out.sz; omega) HBR.out (by have h1 := HO.out.dest; dsimp only at h1; omega))
  rw [hc2, hu] at HRF
  clear hc hp hc2 hu
  unfold fsV at HRF
  obtain ⟨o0, o1, o2, o3, o4, o5⟩ := T3.out.ocells (d := d)
  obtain ⟨q0, q1, q2, q3, q4, q5, q6⟩ := T3.out.box.cells
  go_wp2_with fail
  refine HRF.out.mono ?_
  rintro e w4 ⟨v4, rfl, V4, b4⟩
  obtain ⟨af4, an4, az4, aa4, cf4, cn4, cs4, ca4, rfl, R4⟩ := V4.shape
  have HV4 := Lib.hid R4
  have T4 := Lib.hid (T3.out.ref b4)
  clear R4 V4 b4 HRF o0 o1 o2 o3 o4 o5 q0 q1 q2 q3 q4 q5 q6
  unfold fsV
  obtain ⟨q0, q1, q2, q3, q4, q5, q6⟩ := T4.out.box.cells
  have fq := T4.out.box.free
  go_upto_region 30 with fail
  obtain ⟨w5, hW⟩ : ∃ qq, ((((((w4.setCell ⟨w.heap.size, 0, none⟩ (.slice af4 u.files.length cf4)).setCell ⟨w.heap.size, 1, none⟩ (.slice an4 u.now.length cn4)).setCell ⟨w.heap.size, 2, none⟩ (.slice az4 u.sure.length cs4)).setCell ⟨w.heap.size, 3, none⟩ (.slice aa4 u.acts.length ca4)).setCell ⟨w.heap.size, 4, none⟩ (.int .i64 (u.room : Int))).setCell ⟨w.heap.size, 5, none⟩ (.int .i64 (u.steps : Int))).setCell ⟨w.heap.size, 6, none⟩ (.int .i64 (lim u)) = qq := ⟨_, rfl⟩
  rw [hW]
  have ht := T4.out.put hW
  have T5 := Lib.hid ht.1
  have P5 := Lib.hid ht.2
  clear hW ht q0 q1 q2 q3 q4 q5 q6 fq T4
  obtain ⟨q0, q1, q2, q3, q4, q5, q6⟩ := T5.out.box.cells
  obtain ⟨r0, r1, r2, r3, r4, r5, r6⟩ := T5.out.rcells
  have fr : ∀ q : Nat, w5.frozen? ⟨w.heap.size + 1 + 1, q, none⟩ = false := frozen_box T5.out.res
  go_wp2_with fail
  obtain ⟨W, hW⟩ : ∃ qq, ((((((w5.setCell ⟨w.heap.size + 1 + 1, 0, none⟩ (.slice af4 u.files.length cf4)).setCell ⟨w.heap.size + 1 + 1, 1, none⟩ (.slice an4 u.now.length cn4)).setCell ⟨w.heap.size + 1 + 1, 2, none⟩ (.slice az4 u.sure.length cs4)).setCell ⟨w.heap.size + 1 + 1, 3, none⟩ (.slice aa4 u.acts.length ca4)).setCell ⟨w.heap.size + 1 + 1, 4, none⟩ (.int .i64 (u.room : Int))).setCell ⟨w.heap.size + 1 + 1, 5, none⟩ (.int .i64 (u.steps : Int))).setCell ⟨w.heap.size + 1 + 1, 6, none⟩ (.int .i64 (lim u)) = qq := ⟨_, rfl⟩
  rw [hW]
  have hfin := T5.out.fin hW
  have HX := Lib.hid hfin.1
  have PW := Lib.hid hfin.2.1
  have GW := Lib.hid hfin.2.2.1
  have FW := Lib.hid hfin.2.2.2
  clear hW hfin q0 q1 q2 q3 q4 q5 q6 r0 r1 r2 r3 r4 r5 r6 fr
  obtain ⟨q0, q1, q2, q3, q4, q5, q6⟩ := HX.out.cells
  clear HX
  refine bodyPost_ret (v := .tuple #[.agg #[.slice af4 u.files.length cf4, .slice an4 u.now.length cn4, .slice az4 u.sure.length cs4, .slice aa4 u.acts.length ca4, .int .i64 (u.room : Int), .int .i64 (u.steps : Int), .int .i64 (lim u)], .bool (c == c2)]) (by simp [results, Tryz.results11, go_sem, q0, q1, q2, q3, q4, q5, q6]) rfl ⟨_, _, _, rfl, ?_, GW.out, ?_, ?_, FW.out⟩
  · exact fun k hk => Or.inl (Or.inl hk)
  · have h4 := HV4.out
    have hz3 := T3.out.sz
    refine FsV.kept (s := u) ⟨_, _, _, _, rfl, h4⟩ (fun q hq => ?_)
    rcases hq with hq | hq
    · have hl := T3.out.fl q (HSF.out q hq)
      exact ⟨⟨Or.inl (Or.inl (HSF.out q hq)), Or.inl hq⟩, (PW.out.far (by omega)).trans (P5.out.far (by omega))⟩
    · exact ⟨⟨Or.inr hq, Or.inr (by omega)⟩, (PW.out.far (by omega)).trans (P5.out.far (by omega))⟩
  · have h1 := PW.out.size
    have h2 := T5.out.sz
    omega
set_option maxRecDepth 100000 in
set_option maxHeartbeats 4000000 in
theorem stq_5 {w0 w : World} {F : Nat → Prop} {bf : Nat} {s r : Fs} (g : FsG w0 F w bf s) (hB : Bd s) (hBR : Bd r) (hE : PEnv w0) (S : Nat → Prop) (hSF : ∀ k, S k → F k) (v : Value) (h : FsV S w v r) (x y : Nm) (vd : Value) (d : Nm) (n m : Int) (hd : BytesC F w vd d) (ho : OpOk ⟨5, x, y, d, n, m⟩) :
    Calls Tryz.prog 11 #[.pointer (some ⟨bf, 0, none⟩), v, .agg (opRow ⟨5, x, y, d, n, m⟩ vd)] w (StQ w0 F S w bf (opS s ⟨5, x, y, d, n, m⟩).1 (opS r ⟨5, x, y, d, n, m⟩).1) := by
  have e1 : opS s ⟨5, x, y, d, n, m⟩ = removeS s x := rfl
  have e2 : opS r ⟨5, x, y, d, n, m⟩ = removeS r x := rfl
  rw [e1, e2]
  clear e1 e2
  obtain ⟨c, hc⟩ : ∃ q, (removeS s x).2 = q := ⟨_, rfl⟩
  obtain ⟨p, hp⟩ : ∃ q, (removeS s x).1 = q := ⟨_, rfl⟩
  obtain ⟨c2, hc2⟩ : ∃ q, (removeS r x).2 = q := ⟨_, rfl⟩
  obtain ⟨u, hu⟩ : ∃ q, (removeS r x).1 = q := ⟨_, rfl⟩
  rw [hp, hu]
  obtain ⟨af, an, az, aa, cf, cn, cs, ca, rfl, hR⟩ := h.shape
  have HT := Lib.hid (Ss.make g (.slice af r.files.length cf) (.slice an r.now.length cn) (.slice az r.sure.length cs) (.slice aa r.acts.length ca) (r.room : Int) (r.steps : Int) (lim r) (opRow ⟨5, x, y, d, n, m⟩ vd))
  have HV := Lib.hid h
  have HSF := Lib.hid hSF
  have HB := Lib.hid hB
  have HBR := Lib.hid hBR
  have HD := Lib.hid hd
  have HE := Lib.hid hE
  have HO := Lib.hid ho
  clear g h hB hBR hd hR hE ho hSF
  unfold fsV zrow at HT
  unfold opRow at HT ⊢
  unfold fsV
  go_enter Tryz.func11, Tryz.ntmps11
  go_upto_region 1 with fail
  obtain ⟨w2, hw2⟩ : ∃ q, ((w.alloc (.cells #[.slice af r.files.length cf, .slice an r.now.length cn, .slice az r.sure.length cs, .slice aa r.acts.length ca, .int .i64 (r.room : Int), .int .i64 (r.steps : Int), .int .i64 (lim r)] 33)).alloc (.cells #[.int .i64 5, .string ⟨x.toArray⟩, .string ⟨y.toArray⟩, vd, .int .i64 n, .int .i64 m] 37)).alloc (.cells #[.slice none 0 0, .slice none 0 0, .slice none 0 0, .slice none 0 0, .int .i64 0, .int .i64 0, .int .i64 0] 33) = q := ⟨_, rfl⟩
  rw [hw2] at HT ⊢
  clear hw2
  obtain ⟨o0, o1, o2, o3, o4, o5⟩ := HT.out.ocells (d := d)
  have HP := Lib.hid (g_remove HT.out.g (by have h3 := HB.out.st; omega) x (by have h1 := HO.out.nm; dsimp only at h1; omega))
  rw [hc, hp] at HP
  go_wp2_with fail
  refine HP.out.mono ?_
  rintro e w3 ⟨rfl, g3, hz3, hk3⟩
  have T3 := Lib.hid (HT.out.prog g3 hz3 hk3)
  clear g3 hz3 hk3 HP HT o0 o1 o2 o3 o4 o5
  have HRF := Lib.hid (rRemove_any S _ r x w3 (HV.out.kept (fun k hk => ⟨hk, T3.out.far k (HSF.out k hk)⟩)) (fun k hk => by have h1 := T3.out.fl k (HSF.out k hk); have h2 := T3.out.sz; omega) HBR.out)
  rw [hc2, hu] at HRF
  clear hc hp hc2 hu
  unfold fsV at HRF
  obtain ⟨o0, o1, o2, o3, o4, o5⟩ := T3.out.ocells (d := d)
  obtain ⟨q0, q1, q2, q3, q4, q5, q6⟩ := T3.out.box.cells
  go_wp2_with fail
  refine HRF.out.mono ?_
  rintro e w4 ⟨v4, rfl, V4, b4⟩
  obtain ⟨af4, an4, az4, aa4, cf4, cn4, cs4, ca4, rfl, R4⟩ := V4.shape
  have HV4 := Lib.hid R4
  have T4 := Lib.hid (T3.out.ref b4)
  clear R4 V4 b4 HRF o0 o1 o2 o3 o4 o5 q0 q1 q2 q3 q4 q5 q6
  unfold fsV
  obtain ⟨q0, q1, q2, q3, q4, q5, q6⟩ := T4.out.box.cells
  have fq := T4.out.box.free
  go_upto_region 30 with fail
  obtain ⟨w5, hW⟩ : ∃ qq, ((((((w4.setCell ⟨w.heap.size, 0, none⟩ (.slice af4 u.files.length cf4)).setCell ⟨w.heap.size, 1, none⟩ (.slice an4 u.now.length cn4)).setCell ⟨w.heap.size, 2, none⟩ (.slice az4 u.sure.length cs4)).setCell ⟨w.heap.size, 3, none⟩ (.slice aa4 u.acts.length ca4)).setCell ⟨w.heap.size, 4, none⟩ (.int .i64 (u.room : Int))).setCell ⟨w.heap.size, 5, none⟩ (.int .i64 (u.steps : Int))).setCell ⟨w.heap.size, 6, none⟩ (.int .i64 (lim u)) = qq := ⟨_, rfl⟩
  rw [hW]
  have ht := T4.out.put hW
  have T5 := Lib.hid ht.1
  have P5 := Lib.hid ht.2
  clear hW ht q0 q1 q2 q3 q4 q5 q6 fq T4
  obtain ⟨q0, q1, q2, q3, q4, q5, q6⟩ := T5.out.box.cells
  obtain ⟨r0, r1, r2, r3, r4, r5, r6⟩ := T5.out.rcells
  have fr : ∀ q : Nat, w5.frozen? ⟨w.heap.size + 1 + 1, q, none⟩ = false := frozen_box T5.out.res
  go_wp2_with fail
  obtain ⟨W, hW⟩ : ∃ qq, ((((((w5.setCell ⟨w.heap.size + 1 + 1, 0, none⟩ (.slice af4 u.files.length cf4)).setCell ⟨w.heap.size + 1 + 1, 1, none⟩ (.slice an4 u.now.length cn4)).setCell ⟨w.heap.size + 1 + 1, 2, none⟩ (.slice az4 u.sure.length cs4)).setCell ⟨w.heap.size + 1 + 1, 3, none⟩ (.slice aa4 u.acts.length ca4)).setCell ⟨w.heap.size + 1 + 1, 4, none⟩ (.int .i64 (u.room : Int))).setCell ⟨w.heap.size + 1 + 1, 5, none⟩ (.int .i64 (u.steps : Int))).setCell ⟨w.heap.size + 1 + 1, 6, none⟩ (.int .i64 (lim u)) = qq := ⟨_, rfl⟩
  rw [hW]
  have hfin := T5.out.fin hW
  have HX := Lib.hid hfin.1
  have PW := Lib.hid hfin.2.1
  have GW := Lib.hid hfin.2.2.1
  have FW := Lib.hid hfin.2.2.2
  clear hW hfin q0 q1 q2 q3 q4 q5 q6 r0 r1 r2 r3 r4 r5 r6 fr
  obtain ⟨q0, q1, q2, q3, q4, q5, q6⟩ := HX.out.cells
  clear HX
  refine bodyPost_ret (v := .tuple #[.agg #[.slice af4 u.files.length cf4, .slice an4 u.now.length cn4, .slice az4 u.sure.length cs4, .slice aa4 u.acts.length ca4, .int .i64 (u.room : Int), .int .i64 (u.steps : Int), .int .i64 (lim u)], .bool (c == c2)]) (by simp [results, Tryz.results11, go_sem, q0, q1, q2, q3, q4, q5, q6]) rfl ⟨_, _, _, rfl, ?_, GW.out, ?_, ?_, FW.out⟩
  · exact fun k hk => Or.inl (Or.inl hk)
  · have h4 := HV4.out
    have hz3 := T3.out.sz
    refine FsV.kept (s := u) ⟨_, _, _, _, rfl, h4⟩ (fun q hq => ?_)
    rcases hq with hq | hq
    · have hl := T3.out.fl q (HSF.out q hq)
      exact ⟨⟨Or.inl (Or.inl (HSF.out q hq)), Or.inl hq⟩, (PW.out.far (by omega)).trans (P5.out.far (by omega))⟩
    · exact ⟨⟨Or.inr hq, Or.inr (by omega)⟩, (PW.out.far (by omega)).trans (P5.out.far (by omega))⟩
  · have h1 := PW.out.size
    have h2 := T5.out.sz
    omega
set_option maxRecDepth 100000 in
set_option maxHeartbeats 4000000 in
theorem stq_6 {w0 w : World} {F : Nat → Prop} {bf : Nat} {s r : Fs} (g : FsG w0 F w bf s) (hB : Bd s) (hBR : Bd r) (hE : PEnv w0) (S : Nat → Prop) (hSF : ∀ k, S k → F k) (v : Value) (h : FsV S w v r) (x y : Nm) (vd : Value) (d : Nm) (n m : Int) (hd : BytesC F w vd d) (ho : OpOk ⟨6, x, y, d, n, m⟩) :
    Calls Tryz.prog 11 #[.pointer (some ⟨bf, 0, none⟩), v, .agg (opRow ⟨6, x, y, d, n, m⟩ vd)] w (StQ w0 F S w bf (opS s ⟨6, x, y, d, n, m⟩).1 (opS r ⟨6, x, y, d, n, m⟩).1) := by
  have e1 : opS s ⟨6, x, y, d, n, m⟩ = flushS s := rfl
  have e2 : opS r ⟨6, x, y, d, n, m⟩ = flushS r := rfl
  rw [e1, e2]
  clear e1 e2
  obtain ⟨c, hc⟩ : ∃ q, (flushS s).2 = q := ⟨_, rfl⟩
  obtain ⟨p, hp⟩ : ∃ q, (flushS s).1 = q := ⟨_, rfl⟩
  obtain ⟨c2, hc2⟩ : ∃ q, (flushS r).2 = q := ⟨_, rfl⟩
  obtain ⟨u, hu⟩ : ∃ q, (flushS r).1 = q := ⟨_, rfl⟩
  rw [hp, hu]
  obtain ⟨af, an, az, aa, cf, cn, cs, ca, rfl, hR⟩ := h.shape
  have HT := Lib.hid (Ss.make g (.slice af r.files.length cf) (.slice an r.now.length cn) (.slice az r.sure.length cs) (.slice aa r.acts.length ca) (r.room : Int) (r.steps : Int) (lim r) (opRow ⟨6, x, y, d, n, m⟩ vd))
  have HV := Lib.hid h
  have HSF := Lib.hid hSF
  have HB := Lib.hid hB
  have HBR := Lib.hid hBR
  have HD := Lib.hid hd
  have HE := Lib.hid hE
  have HO := Lib.hid ho
  clear g h hB hBR hd hR hE ho hSF
  unfold fsV zrow at HT
  unfold opRow at HT ⊢
  unfold fsV
  go_enter Tryz.func11, Tryz.ntmps11
  go_upto_region 1 with fail
  obtain ⟨w2, hw2⟩ : ∃ q, ((w.alloc (.cells #[.slice af r.files.length cf, .slice an r.now.length cn, .slice az r.sure.length cs, .slice aa r.acts.length ca, .int .i64 (r.room : Int), .int .i64 (r.steps : Int), .int .i64 (lim r)] 33)).alloc (.cells #[.int .i64 6, .string ⟨x.toArray⟩, .string ⟨y.toArray⟩, vd, .int .i64 n, .int .i64 m] 37)).alloc (.cells #[.slice none 0 0, .slice none 0 0, .slice none 0 0, .slice none 0 0, .int .i64 0, .int .i64 0, .int .i64 0] 33) = q := ⟨_, rfl⟩
  rw [hw2] at HT ⊢
  clear hw2
  obtain ⟨o0, o1, o2, o3, o4, o5⟩ := HT.out.ocells (d := d)
  have HP := Lib.hid (g_flush HT.out.g (by have h3 := HB.out.st; omega))
  rw [hc, hp] at HP
  go_wp2_with fail
  refine HP.out.mono ?_
  rintro e w3 ⟨rfl, g3, hz3, hk3⟩
  have T3 := Lib.hid (HT.out.prog g3 hz3 hk3)
  clear g3 hz3 hk3 HP HT o0 o1 o2 o3 o4 o5
  have HRF := Lib.hid (rFlush_any S _ r  w3 (HV.out.kept (fun k hk => ⟨hk, T3.out.far k (HSF.out k hk)⟩)) (fun k hk => by have h1 := T3.out.fl k (HSF.out k hk); have h2 := T3.out.sz; omega) HBR.out)
  rw [hc2, hu] at HRF
  clear hc hp hc2 hu
  unfold fsV at HRF
  obtain ⟨o0, o1, o2, o3, o4, o5⟩ := T3.out.ocells (d := d)
  obtain ⟨q0, q1, q2, q3, q4, q5, q6⟩ := T3.out.box.cells
  go_wp2_with fail
  refine HRF.out.mono ?_
  rintro e w4 ⟨v4, rfl, V4, b4⟩
  obtain ⟨af4, an4, az4, aa4, cf4, cn4, cs4, ca4, rfl, R4⟩ := V4.shape
  have HV4 := Lib.hid R4
  have T4 := Lib.hid (T3.out.ref b4)
  clear R4 V4 b4 HRF o0 o1 o2 o3 o4 o5 q0 q1 q2 q3 q4 q5 q6
  unfold fsV
  obtain ⟨q0, q1, q2, q3, q4, q5, q6⟩ := T4.out.box.cells
  have fq := T4.out.box.free
  go_upto_region 30 with fail
  obtain ⟨w5, hW⟩ : ∃ qq, ((((((w4.setCell ⟨w.heap.size, 0, none⟩ (.slice af4 u.files.length cf4)).setCell ⟨w.heap.size, 1, none⟩ (.slice an4 u.now.length cn4)).setCell ⟨w.heap.size, 2, none⟩ (.slice az4 u.sure.length cs4)).setCell ⟨w.heap.size, 3, none⟩ (.slice aa4 u.acts.length ca4)).setCell ⟨w.heap.size, 4, none⟩ (.int .i64 (u.room : Int))).setCell ⟨w.heap.size, 5, none⟩ (.int .i64 (u.steps : Int))).setCell ⟨w.heap.size, 6, none⟩ (.int .i64 (lim u)) = qq := ⟨_, rfl⟩
  rw [hW]
  have ht := T4.out.put hW
  have T5 := Lib.hid ht.1
  have P5 := Lib.hid ht.2
  clear hW ht q0 q1 q2 q3 q4 q5 q6 fq T4
  obtain ⟨q0, q1, q2, q3, q4, q5, q6⟩ := T5.out.box.cells
  obtain ⟨r0, r1, r2, r3, r4, r5, r6⟩ := T5.out.rcells
  have fr : ∀ q : Nat, w5.frozen? ⟨w.heap.size + 1 + 1, q, none⟩ = false := frozen_box T5.out.res
  go_wp2_with fail
  obtain ⟨W, hW⟩ : ∃ qq, ((((((w5.setCell ⟨w.heap.size + 1 + 1, 0, none⟩ (.slice af4 u.files.length cf4)).setCell ⟨w.heap.size + 1 + 1, 1, none⟩ (.slice an4 u.now.length cn4)).setCell ⟨w.heap.size + 1 + 1, 2, none⟩ (.slice az4 u.sure.length cs4)).setCell ⟨w.heap.size + 1 + 1, 3, none⟩ (.slice aa4 u.acts.length ca4)).setCell ⟨w.heap.size + 1 + 1, 4, none⟩ (.int .i64 (u.room : Int))).setCell ⟨w.heap.size + 1 + 1, 5, none⟩ (.int .i64 (u.steps : Int))).setCell ⟨w.heap.size + 1 + 1, 6, none⟩ (.int .i64 (lim u)) = qq := ⟨_, rfl⟩
  rw [hW]
  have hfin := T5.out.fin hW
  have HX := Lib.hid hfin.1
  have PW := Lib.hid hfin.2.1
  have GW := Lib.hid hfin.2.2.1
  have FW := Lib.hid hfin.2.2.2
  clear hW hfin q0 q1 q2 q3 q4 q5 q6 r0 r1 r2 r3 r4 r5 r6 fr
  obtain ⟨q0, q1, q2, q3, q4, q5, q6⟩ := HX.out.cells
  clear HX
  refine bodyPost_ret (v := .tuple #[.agg #[.slice af4 u.files.length cf4, .slice an4 u.now.length cn4, .slice az4 u.sure.length cs4, .slice aa4 u.acts.length ca4, .int .i64 (u.room : Int), .int .i64 (u.steps : Int), .int .i64 (lim u)], .bool (c == c2)]) (by simp [results, Tryz.results11, go_sem, q0, q1, q2, q3, q4, q5, q6]) rfl ⟨_, _, _, rfl, ?_, GW.out, ?_, ?_, FW.out⟩
  · exact fun k hk => Or.inl (Or.inl hk)
  · have h4 := HV4.out
    have hz3 := T3.out.sz
    refine FsV.kept (s := u) ⟨_, _, _, _, rfl, h4⟩ (fun q hq => ?_)
    rcases hq with hq | hq
    · have hl := T3.out.fl q (HSF.out q hq)
      exact ⟨⟨Or.inl (Or.inl (HSF.out q hq)), Or.inl hq⟩, (PW.out.far (by omega)).trans (P5.out.far (by omega))⟩
    · exact ⟨⟨Or.inr hq, Or.inr (by omega)⟩, (PW.out.far (by omega)).trans (P5.out.far (by omega))⟩
  · have h1 := PW.out.size
    have h2 := T5.out.sz
    omega
set_option maxRecDepth 100000 in
set_option maxHeartbeats 4000000 in
theorem stq_7 {w0 w : World} {F : Nat → Prop} {bf : Nat} {s r : Fs} (g : FsG w0 F w bf s) (hB : Bd s) (hBR : Bd r) (hE : PEnv w0) (S : Nat → Prop) (hSF : ∀ k, S k → F k) (v : Value) (h : FsV S w v r) (x y : Nm) (vd : Value) (d : Nm) (n m : Int) (hd : BytesC F w vd d) (ho : OpOk ⟨7, x, y, d, n, m⟩) :
    Calls Tryz.prog 11 #[.pointer (some ⟨bf, 0, none⟩), v, .agg (opRow ⟨7, x, y, d, n, m⟩ vd)] w (StQ w0 F S w bf (opS s ⟨7, x, y, d, n, m⟩).1 (opS r ⟨7, x, y, d, n, m⟩).1) := by
  have e1 : opS s ⟨7, x, y, d, n, m⟩ = (crashS s n m, 0) := rfl
  have e2 : opS r ⟨7, x, y, d, n, m⟩ = (crashS r n m, 0) := rfl
  rw [e1, e2]
  clear e1 e2
  obtain ⟨p, hp⟩ : ∃ q, crashS s n m = q := ⟨_, rfl⟩
  obtain ⟨u, hu⟩ : ∃ q, crashS r n m = q := ⟨_, rfl⟩
  have HR1 := Lib.hid hp
  have HR2 := Lib.hid hu
  clear hp hu
  dsimp only
  rw [HR1.out, HR2.out]
  obtain ⟨af, an, az, aa, cf, cn, cs, ca, rfl, hR⟩ := h.shape
  have HT := Lib.hid (Ss.make g (.slice af r.files.length cf) (.slice an r.now.length cn) (.slice az r.sure.length cs) (.slice aa r.acts.length ca) (r.room : Int) (r.steps : Int) (lim r) (opRow ⟨7, x, y, d, n, m⟩ vd))
  have HV := Lib.hid h
  have HSF := Lib.hid hSF
  have HB := Lib.hid hB
  have HBR := Lib.hid hBR
  have HD := Lib.hid hd
  have HE := Lib.hid hE
  have HO := Lib.hid ho
  clear g h hB hBR hd hR hE ho hSF
  unfold fsV zrow at HT
  unfold opRow at HT ⊢
  unfold fsV
  go_enter Tryz.func11, Tryz.ntmps11
  go_upto_region 1 with fail
  obtain ⟨w2, hw2⟩ : ∃ q, ((w.alloc (.cells #[.slice af r.files.length cf, .slice an r.now.length cn, .slice az r.sure.length cs, .slice aa r.acts.length ca, .int .i64 (r.room : Int), .int .i64 (r.steps : Int), .int .i64 (lim r)] 33)).alloc (.cells #[.int .i64 7, .string ⟨x.toArray⟩, .string ⟨y.toArray⟩, vd, .int .i64 n, .int .i64 m] 37)).alloc (.cells #[.slice none 0 0, .slice none 0 0, .slice none 0 0, .slice none 0 0, .int .i64 0, .int .i64 0, .int .i64 0] 33) = q := ⟨_, rfl⟩
  rw [hw2] at HT ⊢
  clear hw2
  obtain ⟨o0, o1, o2, o3, o4, o5⟩ := HT.out.ocells (d := d)
  have HP := Lib.hid (g_crash HT.out.g (by have h3 := HB.out.st; omega) n m)
  rw [HR1.out] at HP
  go_wp2_with fail
  refine HP.out.mono ?_
  rintro e w3 ⟨rfl, g3, hz3, hk3⟩
  have T3 := Lib.hid (HT.out.prog g3 hz3 hk3)
  clear g3 hz3 hk3 HP HT o0 o1 o2 o3 o4 o5
  have HRF := Lib.hid (rcrash_any S _ r n m w3 (HV.out.kept (fun k hk => ⟨hk, T3.out.far k (HSF.out k hk)⟩)) (fun k hk => by have h1 := T3.out.fl k (HSF.out k hk); have h2 := T3.out.sz; omega) HBR.out)
  rw [HR2.out] at HRF
  
  unfold fsV at HRF
  obtain ⟨o0, o1, o2, o3, o4, o5⟩ := T3.out.ocells (d := d)
  obtain ⟨q0, q1, q2, q3, q4, q5, q6⟩ := T3.out.box.cells
  go_wp2_with fail
  refine HRF.out.mono ?_
  rintro e w4 ⟨v4, rfl, V4, b4⟩
  obtain ⟨af4, an4, az4, aa4, cf4, cn4, cs4, ca4, rfl, R4⟩ := V4.shape
  have HV4 := Lib.hid R4
  have T4 := Lib.hid (T3.out.ref b4)
  clear R4 V4 b4 HRF o0 o1 o2 o3 o4 o5 q0 q1 q2 q3 q4 q5 q6
  unfold fsV
  obtain ⟨q0, q1, q2, q3, q4, q5, q6⟩ := T4.out.box.cells
  have fq := T4.out.box.free
  go_upto_region 30 with fail
  obtain ⟨w5, hW⟩ : ∃ qq, ((((((w4.setCell ⟨w.heap.size, 0, none⟩ (.slice af4 u.files.length cf4)).setCell ⟨w.heap.size, 1, none⟩ (.slice an4 u.now.length cn4)).setCell ⟨w.heap.size, 2, none⟩ (.slice az4 u.sure.length cs4)).setCell ⟨w.heap.size, 3, none⟩ (.slice aa4 u.acts.length ca4)).setCell ⟨w.heap.size, 4, none⟩ (.int .i64 (u.room : Int))).setCell ⟨w.heap.size, 5, none⟩ (.int .i64 (u.steps : Int))).setCell ⟨w.heap.size, 6, none⟩ (.int .i64 (lim u)) = qq := ⟨_, rfl⟩
  rw [hW]
  have ht := T4.out.put hW
  have T5 := Lib.hid ht.1
  have P5 := Lib.hid ht.2
  clear hW ht q0 q1 q2 q3 q4 q5 q6 fq T4
  obtain ⟨q0, q1, q2, q3, q4, q5, q6⟩ := T5.out.box.cells
  obtain ⟨r0, r1, r2, r3, r4, r5, r6⟩ := T5.out.rcells
  have fr : ∀ q : Nat, w5.frozen? ⟨w.heap.size + 1 + 1, q, none⟩ = false := frozen_box T5.out.res
  go_wp2_with fail
  obtain ⟨W, hW⟩ : ∃ qq, ((((((w5.setCell ⟨w.heap.size + 1 + 1, 0, none⟩ (.slice af4 u.files.length cf4)).setCell ⟨w.heap.size + 1 + 1, 1, none⟩ (.slice an4 u.now.length cn4)).setCell ⟨w.heap.size + 1 + 1, 2, none⟩ (.slice az4 u.sure.length cs4)).setCell ⟨w.heap.size + 1 + 1, 3, none⟩ (.slice aa4 u.acts.length ca4)).setCell ⟨w.heap.size + 1 + 1, 4, none⟩ (.int .i64 (u.room : Int))).setCell ⟨w.heap.size + 1 + 1, 5, none⟩ (.int .i64 (u.steps : Int))).setCell ⟨w.heap.size + 1 + 1, 6, none⟩ (.int .i64 (lim u)) = qq := ⟨_, rfl⟩
  rw [hW]
  have hfin := T5.out.fin hW
  have HX := Lib.hid hfin.1
  have PW := Lib.hid hfin.2.1
  have GW := Lib.hid hfin.2.2.1
  have FW := Lib.hid hfin.2.2.2
  clear hW hfin q0 q1 q2 q3 q4 q5 q6 r0 r1 r2 r3 r4 r5 r6 fr
  obtain ⟨q0, q1, q2, q3, q4, q5, q6⟩ := HX.out.cells
  clear HX
  refine bodyPost_ret (v := .tuple #[.agg #[.slice af4 u.files.length cf4, .slice an4 u.now.length cn4, .slice az4 u.sure.length cs4, .slice aa4 u.acts.length ca4, .int .i64 (u.room : Int), .int .i64 (u.steps : Int), .int .i64 (lim u)], .bool true]) (by simp [results, Tryz.results11, go_sem, q0, q1, q2, q3, q4, q5, q6]) rfl ⟨_, _, _, rfl, ?_, GW.out, ?_, ?_, FW.out⟩
  · exact fun k hk => Or.inl (Or.inl hk)
  · have h4 := HV4.out
    have hz3 := T3.out.sz
    refine FsV.kept (s := u) ⟨_, _, _, _, rfl, h4⟩ (fun q hq => ?_)
    rcases hq with hq | hq
    · have hl := T3.out.fl q (HSF.out q hq)
      exact ⟨⟨Or.inl (Or.inl (HSF.out q hq)), Or.inl hq⟩, (PW.out.far (by omega)).trans (P5.out.far (by omega))⟩
    · exact ⟨⟨Or.inr hq, Or.inr (by omega)⟩, (PW.out.far (by omega)).trans (P5.out.far (by omega))⟩
  · have h1 := PW.out.size
    have h2 := T5.out.sz
    omega
set_option maxRecDepth 100000 in
set_option maxHeartbeats 4000000 in
theorem stq_8 {w0 w : World} {F : Nat → Prop} {bf : Nat} {s r : Fs} (g : FsG w0 F w bf s) (hB : Bd s) (hBR : Bd r) (hE : PEnv w0) (S : Nat → Prop) (hSF : ∀ k, S k → F k) (v : Value) (h : FsV S w v r) (x y : Nm) (vd : Value) (d : Nm) (n m : Int) (hd : BytesC F w vd d) (ho : OpOk ⟨8, x, y, d, n, m⟩) :
    Calls Tryz.prog 11 #[.pointer (some ⟨bf, 0, none⟩), v, .agg (opRow ⟨8, x, y, d, n, m⟩ vd)] w (StQ w0 F S w bf (opS s ⟨8, x, y, d, n, m⟩).1 (opS r ⟨8, x, y, d, n, m⟩).1) := by
  have e1 : opS s ⟨8, x, y, d, n, m⟩ = ({ s with more := n }, 0) := rfl
  have e2 : opS r ⟨8, x, y, d, n, m⟩ = ({ r with more := n }, 0) := rfl
  rw [e1, e2]
  clear e1 e2
  dsimp only
  have HLM : Hid (max n (-1) = lim ({ r with more := n } : Fs)) := Lib.hid (by unfold lim; dsimp only; split <;> omega)
  obtain ⟨af, an, az, aa, cf, cn, cs, ca, rfl, hR⟩ := h.shape
  have HT := Lib.hid (Ss.make g (.slice af r.files.length cf) (.slice an r.now.length cn) (.slice az r.sure.length cs) (.slice aa r.acts.length ca) (r.room : Int) (r.steps : Int) (lim r) (opRow ⟨8, x, y, d, n, m⟩ vd))
  have HV := Lib.hid h
  have HSF := Lib.hid hSF
  have HB := Lib.hid hB
  have HBR := Lib.hid hBR
  have HD := Lib.hid hd
  have HE := Lib.hid hE
  have HO := Lib.hid ho
  have HR0 := Lib.hid hR
  clear g h hB hBR hd hR hE ho hSF
  unfold fsV zrow at HT
  unfold opRow at HT ⊢
  unfold fsV
  go_enter Tryz.func11, Tryz.ntmps11
  go_upto_region 1 with fail
  obtain ⟨w2, hw2⟩ : ∃ q, ((w.alloc (.cells #[.slice af r.files.length cf, .slice an r.now.length cn, .slice az r.sure.length cs, .slice aa r.acts.length ca, .int .i64 (r.room : Int), .int .i64 (r.steps : Int), .int .i64 (lim r)] 33)).alloc (.cells #[.int .i64 8, .string ⟨x.toArray⟩, .string ⟨y.toArray⟩, vd, .int .i64 n, .int .i64 m] 37)).alloc (.cells #[.slice none 0 0, .slice none 0 0, .slice none 0 0, .slice none 0 0, .int .i64 0, .int .i64 0, .int .i64 0] 33) = q := ⟨_, rfl⟩
  rw [hw2] at HT ⊢
  clear hw2
  obtain ⟨o0, o1, o2, o3, o4, o5⟩ := HT.out.ocells (d := d)
  have HP := Lib.hid (g_stop HT.out.g n HO.out.n)
  go_wp2_with fail
  refine HP.out.mono ?_
  rintro e w3 ⟨rfl, g3, hz3, hk3⟩
  have T3 := Lib.hid (HT.out.prog g3 hz3 hk3)
  clear g3 hz3 hk3 HP HT o0 o1 o2 o3 o4 o5
  obtain ⟨o0, o1, o2, o3, o4, o5⟩ := T3.out.ocells (d := d)
  obtain ⟨q0, q1, q2, q3, q4, q5, q6⟩ := T3.out.box.cells
  have fq := T3.out.box.free
  go_upto_region 30 with fail
  rw [HLM.out]
  have ht := T3.out.one6 (lim ({ r with more := n } : Fs))
  have T5 := Lib.hid ht
  clear ht o0 o1 o2 o3 o4 o5 q0 q1 q2 q3 q4 q5 q6 fq
  generalize w3.setCell ⟨w.heap.size, 6, none⟩ (.int .i64 (lim ({ r with more := n } : Fs))) = w5 at *
  obtain ⟨q0, q1, q2, q3, q4, q5, q6⟩ := T5.out.box.cells
  obtain ⟨r0, r1, r2, r3, r4, r5, r6⟩ := T5.out.rcells
  have fr : ∀ q : Nat, w5.frozen? ⟨w.heap.size + 1 + 1, q, none⟩ = false := frozen_box T5.out.res
  go_wp2_with fail
  obtain ⟨W, hW⟩ : ∃ qq, ((((((w5.setCell ⟨w.heap.size + 1 + 1, 0, none⟩ (.slice af r.files.length cf)).setCell ⟨w.heap.size + 1 + 1, 1, none⟩ (.slice an r.now.length cn)).setCell ⟨w.heap.size + 1 + 1, 2, none⟩ (.slice az r.sure.length cs)).setCell ⟨w.heap.size + 1 + 1, 3, none⟩ (.slice aa r.acts.length ca)).setCell ⟨w.heap.size + 1 + 1, 4, none⟩ (.int .i64 (r.room : Int))).setCell ⟨w.heap.size + 1 + 1, 5, none⟩ (.int .i64 (r.steps : Int))).setCell ⟨w.heap.size + 1 + 1, 6, none⟩ (.int .i64 (lim ({ r with more := n } : Fs))) = qq := ⟨_, rfl⟩
  rw [hW]
  have hfin := T5.out.fin hW
  have HX := Lib.hid hfin.1
  have PW := Lib.hid hfin.2.1
  have GW := Lib.hid hfin.2.2.1
  have FW := Lib.hid hfin.2.2.2
  clear hW hfin q0 q1 q2 q3 q4 q5 q6 r0 r1 r2 r3 r4 r5 r6 fr
  obtain ⟨q0, q1, q2, q3, q4, q5, q6⟩ := HX.out.cells
  clear HX
  refine bodyPost_ret (v := .tuple #[.agg #[.slice af r.files.length cf, .slice an r.now.length cn, .slice az r.sure.length cs, .slice aa r.acts.length ca, .int .i64 (r.room : Int), .int .i64 (r.steps : Int), .int .i64 (lim ({ r with more := n } : Fs))], .bool true]) (by simp [results, Tryz.results11, go_sem, q0, q1, q2, q3, q4, q5, q6]) rfl ⟨_, _, _, rfl, ?_, GW.out, ?_, ?_, FW.out⟩
  · exact fun k hk => Or.inl hk
  · refine FsV.kept (s := ({ r with more := n } : Fs)) ⟨_, _, _, _, rfl, ⟨HR0.out.files, HR0.out.now, HR0.out.sure, HR0.out.acts⟩⟩ (fun q hq => ?_)
    exact ⟨⟨Or.inl (HSF.out q hq), Or.inl hq⟩, FW.out q (HSF.out q hq)⟩
  · have h1 := PW.out.size
    have h2 := T5.out.sz
    omega
set_option maxRecDepth 100000 in
set_option maxHeartbeats 4000000 in
theorem stq_9 {w0 w : World} {F : Nat → Prop} {bf : Nat} {s r : Fs} (g : FsG w0 F w bf s) (hB : Bd s) (hBR : Bd r) (hE : PEnv w0) (S : Nat → Prop) (hSF : ∀ k, S k → F k) (v : Value) (h : FsV S w v r) (kk : Int) (hk : kk ≠ 0 ∧ kk ≠ 1 ∧ kk ≠ 2 ∧ kk ≠ 3 ∧ kk ≠ 4 ∧ kk ≠ 5 ∧ kk ≠ 6 ∧ kk ≠ 7 ∧ kk ≠ 8) (x y : Nm) (vd : Value) (d : Nm) (n m : Int) (hd : BytesC F w vd d) (ho : OpOk ⟨kk, x, y, d, n, m⟩) :
    Calls Tryz.prog 11 #[.pointer (some ⟨bf, 0, none⟩), v, .agg (opRow ⟨kk, x, y, d, n, m⟩ vd)] w (StQ w0 F S w bf (opS s ⟨kk, x, y, d, n, m⟩).1 (opS r ⟨kk, x, y, d, n, m⟩).1) := by
  obtain ⟨c0, c1, c2, c3, c4, c5, c6, c7, c8⟩ := hk
  have e1 : opS s ⟨kk, x, y, d, n, m⟩ = (s, 0) := by unfold opS; simp only [c0, c1, c2, c3, c4, c5, c6, c7, c8, if_false]
  have e2 : opS r ⟨kk, x, y, d, n, m⟩ = (r, 0) := by unfold opS; simp only [c0, c1, c2, c3, c4, c5, c6, c7, c8, if_false]
  rw [e1, e2]
  clear e1 e2
  dsimp only
  have y0 : (kk == 0) = false := beq_eq_false_iff_ne.2 c0
  have y1 : (kk == 1) = false := beq_eq_false_iff_ne.2 c1
  have y2 : (kk == 2) = false := beq_eq_false_iff_ne.2 c2
  have y3 : (kk == 3) = false := beq_eq_false_iff_ne.2 c3
  have y4 : (kk == 4) = false := beq_eq_false_iff_ne.2 c4
  have y5 : (kk == 5) = false := beq_eq_false_iff_ne.2 c5
  have y6 : (kk == 6) = false := beq_eq_false_iff_ne.2 c6
  have y7 : (kk == 7) = false := beq_eq_false_iff_ne.2 c7
  have y8 : (kk == 8) = false := beq_eq_false_iff_ne.2 c8
  clear c0 c1 c2 c3 c4 c5 c6 c7 c8
  obtain ⟨af, an, az, aa, cf, cn, cs, ca, rfl, hR⟩ := h.shape
  have HT := Lib.hid (Ss.make g (.slice af r.files.length cf) (.slice an r.now.length cn) (.slice az r.sure.length cs) (.slice aa r.acts.length ca) (r.room : Int) (r.steps : Int) (lim r) (opRow ⟨kk, x, y, d, n, m⟩ vd))
  have HV := Lib.hid h
  have HSF := Lib.hid hSF
  have HB := Lib.hid hB
  have HBR := Lib.hid hBR
  have HD := Lib.hid hd
  have HE := Lib.hid hE
  have HO := Lib.hid ho
  have HR0 := Lib.hid hR
  clear g h hB hBR hd hR hE ho hSF
  unfold fsV zrow at HT
  unfold opRow at HT ⊢
  unfold fsV
  go_enter Tryz.func11, Tryz.ntmps11
  go_upto_region 1 with fail
  obtain ⟨w2, hw2⟩ : ∃ q, ((w.alloc (.cells #[.slice af r.files.length cf, .slice an r.now.length cn, .slice az r.sure.length cs, .slice aa r.acts.length ca, .int .i64 (r.room : Int), .int .i64 (r.steps : Int), .int .i64 (lim r)] 33)).alloc (.cells #[.int .i64 kk, .string ⟨x.toArray⟩, .string ⟨y.toArray⟩, vd, .int .i64 n, .int .i64 m] 37)).alloc (.cells #[.slice none 0 0, .slice none 0 0, .slice none 0 0, .slice none 0 0, .int .i64 0, .int .i64 0, .int .i64 0] 33) = q := ⟨_, rfl⟩
  rw [hw2] at HT ⊢
  clear hw2
  obtain ⟨o0, o1, o2, o3, o4, o5⟩ := HT.out.ocells (d := d)
  obtain ⟨q0, q1, q2, q3, q4, q5, q6⟩ := HT.out.box.cells
  obtain ⟨r0, r1, r2, r3, r4, r5, r6⟩ := HT.out.rcells
  have fr : ∀ q : Nat, w2.frozen? ⟨w.heap.size + 1 + 1, q, none⟩ = false := frozen_box HT.out.res
  go_wp2_with fail
  obtain ⟨W, hW⟩ : ∃ qq, ((((((w2.setCell ⟨w.heap.size + 1 + 1, 0, none⟩ (.slice af r.files.length cf)).setCell ⟨w.heap.size + 1 + 1, 1, none⟩ (.slice an r.now.length cn)).setCell ⟨w.heap.size + 1 + 1, 2, none⟩ (.slice az r.sure.length cs)).setCell ⟨w.heap.size + 1 + 1, 3, none⟩ (.slice aa r.acts.length ca)).setCell ⟨w.heap.size + 1 + 1, 4, none⟩ (.int .i64 (r.room : Int))).setCell ⟨w.heap.size + 1 + 1, 5, none⟩ (.int .i64 (r.steps : Int))).setCell ⟨w.heap.size + 1 + 1, 6, none⟩ (.int .i64 (lim r)) = qq := ⟨_, rfl⟩
  rw [hW]
  have hfin := HT.out.fin hW
  have HX := Lib.hid hfin.1
  have PW := Lib.hid hfin.2.1
  have GW := Lib.hid hfin.2.2.1
  have FW := Lib.hid hfin.2.2.2
  clear hW hfin q0 q1 q2 q3 q4 q5 q6 r0 r1 r2 r3 r4 r5 r6 fr
  obtain ⟨q0, q1, q2, q3, q4, q5, q6⟩ := HX.out.cells
  clear HX
  refine bodyPost_ret (v := .tuple #[.agg #[.slice af r.files.length cf, .slice an r.now.length cn, .slice az r.sure.length cs, .slice aa r.acts.length ca, .int .i64 (r.room : Int), .int .i64 (r.steps : Int), .int .i64 (lim r)], .bool true]) (by simp [results, Tryz.results11, go_sem, q0, q1, q2, q3, q4, q5, q6]) rfl ⟨_, _, _, rfl, ?_, GW.out, ?_, ?_, FW.out⟩
  · exact fun k hk => Or.inl hk
  · refine FsV.kept (s := r) ⟨_, _, _, _, rfl, ⟨HR0.out.files, HR0.out.now, HR0.out.sure, HR0.out.acts⟩⟩ (fun q hq => ?_)
    exact ⟨⟨Or.inl (HSF.out q hq), Or.inl hq⟩, FW.out q (HSF.out q hq)⟩
  · have h1 := PW.out.size
    have h2 := HT.out.sz
    omega
theorem stq_any {w0 w : World} {F : Nat → Prop} {bf : Nat} {s r : Fs} (g : FsG w0 F w bf s) (hB : Bd s) (hBR : Bd r) (hE : PEnv w0) (S : Nat → Prop) (hSF : ∀ k, S k → F k) (v : Value) (h : FsV S w v r) (o : OpL) (vd : Value) (hd : BytesC F w vd o.data) (ho : OpOk o) :
    Calls Tryz.prog 11 #[.pointer (some ⟨bf, 0, none⟩), v, .agg (opRow o vd)] w (StQ w0 F S w bf (opS s o).1 (opS r o).1) := by
  obtain ⟨kk, x, y, d, n, m⟩ := o
  by_cases h0 : kk = 0
  · subst h0; exact stq_0 g hB hBR hE S hSF v h x y vd d n m hd ho
  by_cases h1 : kk = 1
  · subst h1; exact stq_1 g hB hBR hE S hSF v h x y vd d n m hd ho
  by_cases h2 : kk = 2
  · subst h2; exact stq_2 g hB hBR hE S hSF v h x y vd d n m hd ho
  by_cases h3 : kk = 3
  · subst h3; exact stq_3 g hB hBR hE S hSF v h x y vd d n m hd ho
  by_cases h4 : kk = 4
  · subst h4; exact stq_4 g hB hBR hE S hSF v h x y vd d n m hd ho
  by_cases h5 : kk = 5
  · subst h5; exact stq_5 g hB hBR hE S hSF v h x y vd d n m hd ho
  by_cases h6 : kk = 6
  · subst h6; exact stq_6 g hB hBR hE S hSF v h x y vd d n m hd ho
  by_cases h7 : kk = 7
  · subst h7; exact stq_7 g hB hBR hE S hSF v h x y vd d n m hd ho
  by_cases h8 : kk = 8
  · subst h8; exact stq_8 g hB hBR hE S hSF v h x y vd d n m hd ho
  exact stq_9 g hB hBR hE S hSF v h kk ⟨h0, h1, h2, h3, h4, h5, h6, h7, h8⟩ x y vd d n m hd ho
end Go.Proofs.YtjefcalndfcmdaaGreatDoor
