/- The reference's Flush. The reference's Remove. The reference's Sync. The reference's Cut. -/
import Derived.Test.YtjefcalndfcmdaaGreatDoorVgN
import Derived.Test.YtjefcalndfcmdaaGreatDoorVfL
import Derived.Test.YtjefcalndfcmdaaGreatDoorVfG
import Derived.Test.YtjefcalndfcmdaaGreatDoorVfH
namespace Go.Proofs.YtjefcalndfcmdaaGreatDoor
open Go.RowKit Go.Maps
attribute [local go_sem ↓] Go.wp_at_zero Go.wp_at_succ
theorem rstep_c {s : Fs} {af an az aa : Option Addr} {cf cn cs ca : Nat} (h0 : s.more = 0) (W : World) :
    Calls Tryz.prog 49 #[.agg (fsV (.slice af s.files.length cf) (.slice an s.now.length cn) (.slice az s.sure.length cs) (.slice aa s.acts.length ca) (s.room : Int) (s.steps : Int) (lim s))] W fun e w' => e = .returned (.tuple #[.agg (fsV (.slice af s.files.length cf) (.slice an s.now.length cn) (.slice az s.sure.length cs) (.slice aa s.acts.length ca) (s.room : Int) (s.steps : Int) (lim s)), .int .i64 190]) ∧ Below W.heap.size W w' := by
  rw [(lim_zero s).2 h0]
  exact rstep_cut af an az aa _ cf _ cn _ cs _ ca _ _ W
theorem rstep_t {s : Fs} {af an az aa : Option Addr} {cf cn cs ca : Nat} (hB : Bd s) (h0 : ¬ s.more = 0) (W : World) :
    Calls Tryz.prog 49 #[.agg (fsV (.slice af s.files.length cf) (.slice an s.now.length cn) (.slice az s.sure.length cs) (.slice aa s.acts.length ca) (s.room : Int) (s.steps : Int) (lim s))] W fun e w' => e = .returned (.tuple #[.agg (fsV (.slice af s.files.length cf) (.slice an s.now.length cn) (.slice az s.sure.length cs) (.slice aa s.acts.length ca) (s.room : Int) ((tick s).steps : Int) (lim (tick s))), .int .i64 0]) ∧ Below W.heap.size W w' := by
  refine (rstep_ok af an az aa _ cf _ cn _ cs _ ca _ s.steps (lim s) (by have := hB.st; omega) ⟨lim_lo s, lim_hi hB.ok.hi⟩ (fun e => h0 ((lim_zero s).1 e)) W).mono ?_
  rintro e w' ⟨rfl, hb⟩
  exact ⟨by rw [lim_tick]; rfl, hb⟩
set_option maxRecDepth 100000 in
set_option maxHeartbeats 4000000 in
theorem rFlush_any (S : Nat → Prop) (v : Value) (s : Fs) (w : World) (h : FsV S w v s) (hS : ∀ k, S k → k < w.heap.size) (hB : Bd s) :
    Calls Tryz.prog 33 #[v] w (RP S w (flushS s).1 (flushS s).2) := by
  obtain ⟨af, an, az, aa, cf, cn, cs, ca, rfl, hR⟩ := h.shape
  clear h
  by_cases h0 : s.more = 0
  · have e1 : flushS s = (s, 190) := if_pos h0
    rw [e1]
    clear e1
    have HST := Lib.hid (fun (W : World) => rstep_c (af := af) (an := an) (az := az) (aa := aa) (cf := cf) (cn := cn) (cs := cs) (ca := ca) h0 W)
    have HH := Lib.hid hR
    have HS := Lib.hid hS
    have HB := Lib.hid hB
    have HT := Lib.hid (Fr.make w (.slice af s.files.length cf) (.slice an s.now.length cn) (.slice az s.sure.length cs) (.slice aa s.acts.length ca) (s.room : Int) (s.steps : Int) (lim s))
    clear hR hS hB
    unfold fsV zrow at HT
    unfold fsV
    unfold fsV at HST
    go_enter Tryz.func33, Tryz.ntmps33
    go_upto_region 1 with fail
    obtain ⟨w2, hw2⟩ : ∃ x, ((w.alloc (.cells #[.slice af s.files.length cf, .slice an s.now.length cn, .slice az s.sure.length cs, .slice aa s.acts.length ca, .int .i64 (s.room : Int), .int .i64 (s.steps : Int), .int .i64 (lim s)] 33)).alloc (.cells #[.slice none 0 0, .slice none 0 0, .slice none 0 0, .slice none 0 0, .int .i64 0, .int .i64 0, .int .i64 0] 33)) = x := ⟨_, rfl⟩
    rw [hw2] at HT ⊢
    clear hw2
    obtain ⟨q0, q1, q2, q3, q4, q5, q6⟩ := HT.out.cells
    have fq := HT.out.free
    go_wp2_with fail
    refine (HST.out w2).mono ?_
    rintro e w3 ⟨rfl, b0⟩
    have F3 := Lib.hid (HT.out.call b0)
    clear b0 q0 q1 q2 q3 q4 q5 q6 fq
    obtain ⟨q0, q1, q2, q3, q4, q5, q6⟩ := F3.out.cells
    have fq := F3.out.free
    go_upto_region 2 with fail
    obtain ⟨w4, hW⟩ : ∃ x, ((((((w3.setCell ⟨w.heap.size, 0, none⟩ (.slice af s.files.length cf)).setCell ⟨w.heap.size, 1, none⟩ (.slice an s.now.length cn)).setCell ⟨w.heap.size, 2, none⟩ (.slice az s.sure.length cs)).setCell ⟨w.heap.size, 3, none⟩ (.slice aa s.acts.length ca)).setCell ⟨w.heap.size, 4, none⟩ (.int .i64 (s.room : Int))).setCell ⟨w.heap.size, 5, none⟩ (.int .i64 (s.steps : Int))).setCell ⟨w.heap.size, 6, none⟩ (.int .i64 (lim s)) = x := ⟨_, rfl⟩
    rw [hW]
    have ht := F3.out.put hW
    have F4 := Lib.hid ht.1
    have P4 := Lib.hid ht.2
    clear hW ht q0 q1 q2 q3 q4 q5 q6 fq
    obtain ⟨q0, q1, q2, q3, q4, q5, q6⟩ := F4.out.cells
    obtain ⟨r0, r1, r2, r3, r4, r5, r6⟩ := F4.out.rcells
    have fr := F4.out.rfree
    go_wp2_with fail
    obtain ⟨W, hW⟩ : ∃ x, ((((((w4.setCell ⟨w.heap.size + 1, 0, none⟩ (.slice af s.files.length cf)).setCell ⟨w.heap.size + 1, 1, none⟩ (.slice an s.now.length cn)).setCell ⟨w.heap.size + 1, 2, none⟩ (.slice az s.sure.length cs)).setCell ⟨w.heap.size + 1, 3, none⟩ (.slice aa s.acts.length ca)).setCell ⟨w.heap.size + 1, 4, none⟩ (.int .i64 (s.room : Int))).setCell ⟨w.heap.size + 1, 5, none⟩ (.int .i64 (s.steps : Int))).setCell ⟨w.heap.size + 1, 6, none⟩ (.int .i64 (lim s)) = x := ⟨_, rfl⟩
    rw [hW]
    obtain ⟨hX, hP, hBe⟩ := F4.out.fin hW
    have PW := Lib.hid hP
    have BW := Lib.hid hBe
    clear hW hP hBe q0 q1 q2 q3 q4 q5 q6 r0 r1 r2 r3 r4 r5 r6 fr
    obtain ⟨q0, q1, q2, q3, q4, q5, q6⟩ := hX.cells
    clear hX
    refine bodyPost_ret (v := .tuple #[.agg #[.slice af s.files.length cf, .slice an s.now.length cn, .slice az s.sure.length cs, .slice aa s.acts.length ca, .int .i64 (s.room : Int), .int .i64 (s.steps : Int), .int .i64 (lim s)], .int .i64 190]) (by simp [results, Tryz.results33, go_sem, q0, q1, q2, q3, q4, q5, q6]) rfl ⟨_, rfl, ⟨⟨_, _, _, _, rfl, ?_⟩⟩, BW.out⟩
    exact HH.out.kept (fun k hk => ⟨Or.inl hk, BW.out.block k (HS.out k hk)⟩)
  · have e1 : flushS s = (flushD (tick s) s.acts.length, 0) := if_neg h0
    rw [e1]
    clear e1
    have HST := Lib.hid (fun (W : World) => rstep_t (af := af) (an := an) (az := az) (aa := aa) (cf := cf) (cn := cn) (cs := cs) (ca := ca) hB h0 W)
    have HH := Lib.hid hR
    have HS := Lib.hid hS
    have HB := Lib.hid hB
    have HT := Lib.hid (Fr.make w (.slice af s.files.length cf) (.slice an s.now.length cn) (.slice az s.sure.length cs) (.slice aa s.acts.length ca) (s.room : Int) (s.steps : Int) (lim s))
    clear hR hS hB
    unfold fsV zrow at HT
    unfold fsV
    unfold fsV at HST
    go_enter Tryz.func33, Tryz.ntmps33
    go_upto_region 1 with fail
    obtain ⟨w2, hw2⟩ : ∃ x, ((w.alloc (.cells #[.slice af s.files.length cf, .slice an s.now.length cn, .slice az s.sure.length cs, .slice aa s.acts.length ca, .int .i64 (s.room : Int), .int .i64 (s.steps : Int), .int .i64 (lim s)] 33)).alloc (.cells #[.slice none 0 0, .slice none 0 0, .slice none 0 0, .slice none 0 0, .int .i64 0, .int .i64 0, .int .i64 0] 33)) = x := ⟨_, rfl⟩
    rw [hw2] at HT ⊢
    clear hw2
    obtain ⟨q0, q1, q2, q3, q4, q5, q6⟩ := HT.out.cells
    have fq := HT.out.free
    go_wp2_with fail
    refine (HST.out w2).mono ?_
    rintro e w3 ⟨rfl, b0⟩
    have F3 := Lib.hid (HT.out.call b0)
    clear b0 q0 q1 q2 q3 q4 q5 q6 fq
    obtain ⟨q0, q1, q2, q3, q4, q5, q6⟩ := F3.out.cells
    have fq := F3.out.free
    go_upto_region 4 with fail
    obtain ⟨w4, hW⟩ : ∃ x, ((((((w3.setCell ⟨w.heap.size, 0, none⟩ (.slice af s.files.length cf)).setCell ⟨w.heap.size, 1, none⟩ (.slice an s.now.length cn)).setCell ⟨w.heap.size, 2, none⟩ (.slice az s.sure.length cs)).setCell ⟨w.heap.size, 3, none⟩ (.slice aa s.acts.length ca)).setCell ⟨w.heap.size, 4, none⟩ (.int .i64 (s.room : Int))).setCell ⟨w.heap.size, 5, none⟩ (.int .i64 ((tick s).steps : Int))).setCell ⟨w.heap.size, 6, none⟩ (.int .i64 (lim (tick s))) = x := ⟨_, rfl⟩
    rw [hW]
    have ht := F3.out.put hW
    have F4 := Lib.hid ht.1
    have P4 := Lib.hid ht.2
    clear hW ht q0 q1 q2 q3 q4 q5 q6 fq
    have HR4 := Lib.hid (HH.out.kept (S' := S) (w' := w4) (fun k hk => ⟨hk, F4.out.below.block k (HS.out k hk)⟩))
    have HFL := Lib.hid (rflush_any S af an az aa cf cn cs ca (s.room : Int) ((tick s).steps : Int) (lim (tick s)) s s.acts.length w4 HR4.out (fun k hk => Nat.lt_of_lt_of_le (HS.out k hk) F4.out.below.size) (Nat.le_refl _) HB.out.ok.dirs (by have h1 := HB.out.ok.cnt; have h2 := HB.out.st; omega))
    unfold fsV at HFL
    obtain ⟨q0, q1, q2, q3, q4, q5, q6⟩ := F4.out.cells
    have fq := F4.out.free
    go_wp2_with fail
    refine HFL.out.mono ?_
    rintro e w5 ⟨vs, va, rfl, R5, b5⟩
    rw [List.drop_length] at R5
    obtain ⟨z5, k5, rfl⟩ := CellsC.shape R5.sure
    obtain ⟨y5, j5, rfl⟩ := CellsC.shape R5.acts
    obtain ⟨m5, hm5⟩ : ∃ x, (doAll s.sure (s.acts.take s.acts.length)).length = x := ⟨_, rfl⟩
    obtain ⟨n5, hn5⟩ : ∃ x, ([] : List Ac).length = x := ⟨_, rfl⟩
    dsimp only at R5 ⊢
    rw [hm5, hn5] at R5 ⊢
    clear hm5 hn5
    have HR5 := Lib.hid R5
    have F5 := Lib.hid (F4.out.call b5)
    clear b5 R5 HFL q0 q1 q2 q3 q4 q5 q6 fq
    have Z5 := Lib.hid F4.out.below.size
    obtain ⟨r0, r1, r2, r3, r4, r5, r6⟩ := F5.out.rcells
    have fr := F5.out.rfree
    go_wp2_with fail
    obtain ⟨W, hW⟩ : ∃ x, ((((((w5.setCell ⟨w.heap.size + 1, 0, none⟩ (.slice af s.files.length cf)).setCell ⟨w.heap.size + 1, 1, none⟩ (.slice an s.now.length cn)).setCell ⟨w.heap.size + 1, 2, none⟩ (.slice z5 m5 k5)).setCell ⟨w.heap.size + 1, 3, none⟩ (.slice y5 n5 j5)).setCell ⟨w.heap.size + 1, 4, none⟩ (.int .i64 (s.room : Int))).setCell ⟨w.heap.size + 1, 5, none⟩ (.int .i64 ((tick s).steps : Int))).setCell ⟨w.heap.size + 1, 6, none⟩ (.int .i64 (lim (tick s))) = x := ⟨_, rfl⟩
    rw [hW]
    obtain ⟨hX, hP, hBe⟩ := F5.out.fin hW
    have PW := Lib.hid hP
    have BW := Lib.hid hBe
    clear hW hP hBe  r0 r1 r2 r3 r4 r5 r6 fr
    obtain ⟨q0, q1, q2, q3, q4, q5, q6⟩ := hX.cells
    clear hX
    refine bodyPost_ret (v := .tuple #[.agg #[.slice af s.files.length cf, .slice an s.now.length cn, .slice z5 m5 k5, .slice y5 n5 j5, .int .i64 (s.room : Int), .int .i64 ((tick s).steps : Int), .int .i64 (lim (tick s))], .int .i64 0]) (by simp [results, Tryz.results33, go_sem, q0, q1, q2, q3, q4, q5, q6]) rfl ⟨_, rfl, ⟨⟨_, _, _, _, rfl, ?_⟩⟩, BW.out⟩
    have hz := PW.out.size
    have hz4 := Z5.out
    have hlt := F4.out.lt
    have h := HR5.out.kept (S' := fun k => S k ∨ (w.heap.size ≤ k ∧ k < W.heap.size)) (w' := W) (fun k hk => ?_)
    · exact ⟨h.files, h.now, h.sure, h.acts⟩
    · rcases hk with hk | hk
      · have h1 := HS.out k hk
        exact ⟨Or.inl hk, PW.out.far k (by omega)⟩
      · exact ⟨Or.inr ⟨by omega, by omega⟩, PW.out.far k (by omega)⟩
end Go.Proofs.YtjefcalndfcmdaaGreatDoor
namespace Go.Proofs.YtjefcalndfcmdaaGreatDoor
open Go.RowKit Go.Maps
attribute [local go_sem ↓] Go.wp_at_zero Go.wp_at_succ
set_option maxRecDepth 100000 in
set_option maxHeartbeats 4000000 in
theorem rRemove_any (S : Nat → Prop) (v : Value) (s : Fs) (x : Nm) (w : World) (h : FsV S w v s) (hS : ∀ k, S k → k < w.heap.size) (hB : Bd s) :
    Calls Tryz.prog 32 #[v, .string ⟨x.toArray⟩] w (RP S w (removeS s x).1 (removeS s x).2) := by
  obtain ⟨af, an, az, aa, cf, cn, cs, ca, rfl, hR⟩ := h.shape
  clear h
  have HF := Lib.hid (fun (W : World) (hb : Below w.heap.size w W) => rfind_any S (.slice an s.now.length cn) s.now x W (hR.now.kept (fun k hk => ⟨hk, hb.block k (hS k hk)⟩)) (by have h1 := hB.ok.nowLen; have h2 := hB.st; omega))
  unfold removeS
  cases hf : fnd s.now x with
  | none =>
    have hI : fndI s.now x = -1 := by unfold fndI; rw [hf]
    rw [hI] at HF
    clear hI hf
    dsimp only
    have HH := Lib.hid hR
    have HS := Lib.hid hS
    have HB := Lib.hid hB
    have HT := Lib.hid (Fr.make w (.slice af s.files.length cf) (.slice an s.now.length cn) (.slice az s.sure.length cs) (.slice aa s.acts.length ca) (s.room : Int) (s.steps : Int) (lim s))
    clear hR hS hB
    unfold fsV zrow at HT
    unfold fsV
    go_enter Tryz.func32, Tryz.ntmps32
    go_upto_region 1 with fail
    obtain ⟨w2, hw2⟩ : ∃ x, ((w.alloc (.cells #[.slice af s.files.length cf, .slice an s.now.length cn, .slice az s.sure.length cs, .slice aa s.acts.length ca, .int .i64 (s.room : Int), .int .i64 (s.steps : Int), .int .i64 (lim s)] 33)).alloc (.cells #[.slice none 0 0, .slice none 0 0, .slice none 0 0, .slice none 0 0, .int .i64 0, .int .i64 0, .int .i64 0] 33)) = x := ⟨_, rfl⟩
    rw [hw2] at HT ⊢
    clear hw2
    obtain ⟨q0, q1, q2, q3, q4, q5, q6⟩ := HT.out.cells
    have fq := HT.out.free
    have HF1 := Lib.hid (HF.out w2 HT.out.below)
    clear HF
    go_wp2_with fail
    refine HF1.out.mono ?_
    rintro e w3 ⟨rfl, rfl⟩
    clear HF1
    obtain ⟨r0, r1, r2, r3, r4, r5, r6⟩ := HT.out.rcells
    have fr := HT.out.rfree
    go_wp2_with fail
    obtain ⟨W, hW⟩ : ∃ x, ((((((w3.setCell ⟨w.heap.size + 1, 0, none⟩ (.slice af s.files.length cf)).setCell ⟨w.heap.size + 1, 1, none⟩ (.slice an s.now.length cn)).setCell ⟨w.heap.size + 1, 2, none⟩ (.slice az s.sure.length cs)).setCell ⟨w.heap.size + 1, 3, none⟩ (.slice aa s.acts.length ca)).setCell ⟨w.heap.size + 1, 4, none⟩ (.int .i64 (s.room : Int))).setCell ⟨w.heap.size + 1, 5, none⟩ (.int .i64 (s.steps : Int))).setCell ⟨w.heap.size + 1, 6, none⟩ (.int .i64 (lim s)) = x := ⟨_, rfl⟩
    rw [hW]
    obtain ⟨hX, hP, hBe⟩ := HT.out.fin hW
    have PW := Lib.hid hP
    have BW := Lib.hid hBe
    clear hW hP hBe q0 q1 q2 q3 q4 q5 q6 fq r0 r1 r2 r3 r4 r5 r6 fr
    obtain ⟨q0, q1, q2, q3, q4, q5, q6⟩ := hX.cells
    clear hX
    refine bodyPost_ret (v := .tuple #[.agg #[.slice af s.files.length cf, .slice an s.now.length cn, .slice az s.sure.length cs, .slice aa s.acts.length ca, .int .i64 (s.room : Int), .int .i64 (s.steps : Int), .int .i64 (lim s)], .int .i64 4]) (by simp [results, Tryz.results32, go_sem, q0, q1, q2, q3, q4, q5, q6]) rfl ⟨_, rfl, ⟨⟨_, _, _, _, rfl, ?_⟩⟩, BW.out⟩
    exact HH.out.kept (fun k hk => ⟨Or.inl hk, BW.out.block k (HS.out k hk)⟩)
  | some i =>
    have hI : fndI s.now x = (i : Int) := by unfold fndI; rw [hf]
    rw [hI] at HF
    have hil : i < s.files.length := hB.ok.nowOk.lt _ (fnd_mem hf)
    have hib : i ≤ 4194304 := by have h1 := hB.fl; have h2 := hB.st; omega
    clear hI hf hil
    dsimp only
    by_cases h0 : s.more = 0
    · rw [if_pos h0]
      have HST := Lib.hid (fun (W : World) => rstep_c (af := af) (an := an) (az := az) (aa := aa) (cf := cf) (cn := cn) (cs := cs) (ca := ca) h0 W)
      have HH := Lib.hid hR
      have HS := Lib.hid hS
      have HB := Lib.hid hB
      have HT := Lib.hid (Fr.make w (.slice af s.files.length cf) (.slice an s.now.length cn) (.slice az s.sure.length cs) (.slice aa s.acts.length ca) (s.room : Int) (s.steps : Int) (lim s))
      clear hR hS hB
      unfold fsV zrow at HT
      unfold fsV
      unfold fsV at HST
      go_enter Tryz.func32, Tryz.ntmps32
      go_upto_region 1 with fail
      obtain ⟨w2, hw2⟩ : ∃ x, ((w.alloc (.cells #[.slice af s.files.length cf, .slice an s.now.length cn, .slice az s.sure.length cs, .slice aa s.acts.length ca, .int .i64 (s.room : Int), .int .i64 (s.steps : Int), .int .i64 (lim s)] 33)).alloc (.cells #[.slice none 0 0, .slice none 0 0, .slice none 0 0, .slice none 0 0, .int .i64 0, .int .i64 0, .int .i64 0] 33)) = x := ⟨_, rfl⟩
      rw [hw2] at HT ⊢
      clear hw2
      obtain ⟨q0, q1, q2, q3, q4, q5, q6⟩ := HT.out.cells
      have fq := HT.out.free
      have HF1 := Lib.hid (HF.out w2 HT.out.below)
      clear HF
      go_wp2_with fail
      refine HF1.out.mono ?_
      rintro e w3 ⟨rfl, rfl⟩
      clear HF1
      go_wp2_with fail
      refine (HST.out w3).mono ?_
      rintro e w4 ⟨rfl, b0⟩
      have F3 := Lib.hid (HT.out.call b0)
      clear b0 q0 q1 q2 q3 q4 q5 q6 fq
      obtain ⟨q0, q1, q2, q3, q4, q5, q6⟩ := F3.out.cells
      have fq := F3.out.free
      go_upto_region 4 with fail
      obtain ⟨w5, hW⟩ : ∃ x, ((((((w4.setCell ⟨w.heap.size, 0, none⟩ (.slice af s.files.length cf)).setCell ⟨w.heap.size, 1, none⟩ (.slice an s.now.length cn)).setCell ⟨w.heap.size, 2, none⟩ (.slice az s.sure.length cs)).setCell ⟨w.heap.size, 3, none⟩ (.slice aa s.acts.length ca)).setCell ⟨w.heap.size, 4, none⟩ (.int .i64 (s.room : Int))).setCell ⟨w.heap.size, 5, none⟩ (.int .i64 (s.steps : Int))).setCell ⟨w.heap.size, 6, none⟩ (.int .i64 (lim s)) = x := ⟨_, rfl⟩
      rw [hW]
      have ht := F3.out.put hW
      have F4 := Lib.hid ht.1
      have P4 := Lib.hid ht.2
      clear hW ht q0 q1 q2 q3 q4 q5 q6 fq
      obtain ⟨q0, q1, q2, q3, q4, q5, q6⟩ := F4.out.cells
      obtain ⟨r0, r1, r2, r3, r4, r5, r6⟩ := F4.out.rcells
      have fr := F4.out.rfree
      go_wp2_with fail
      obtain ⟨W, hW⟩ : ∃ x, ((((((w5.setCell ⟨w.heap.size + 1, 0, none⟩ (.slice af s.files.length cf)).setCell ⟨w.heap.size + 1, 1, none⟩ (.slice an s.now.length cn)).setCell ⟨w.heap.size + 1, 2, none⟩ (.slice az s.sure.length cs)).setCell ⟨w.heap.size + 1, 3, none⟩ (.slice aa s.acts.length ca)).setCell ⟨w.heap.size + 1, 4, none⟩ (.int .i64 (s.room : Int))).setCell ⟨w.heap.size + 1, 5, none⟩ (.int .i64 (s.steps : Int))).setCell ⟨w.heap.size + 1, 6, none⟩ (.int .i64 (lim s)) = x := ⟨_, rfl⟩
      rw [hW]
      obtain ⟨hX, hP, hBe⟩ := F4.out.fin hW
      have PW := Lib.hid hP
      have BW := Lib.hid hBe
      clear hW hP hBe q0 q1 q2 q3 q4 q5 q6 r0 r1 r2 r3 r4 r5 r6 fr
      obtain ⟨q0, q1, q2, q3, q4, q5, q6⟩ := hX.cells
      clear hX
      refine bodyPost_ret (v := .tuple #[.agg #[.slice af s.files.length cf, .slice an s.now.length cn, .slice az s.sure.length cs, .slice aa s.acts.length ca, .int .i64 (s.room : Int), .int .i64 (s.steps : Int), .int .i64 (lim s)], .int .i64 190]) (by simp [results, Tryz.results32, go_sem, q0, q1, q2, q3, q4, q5, q6]) rfl ⟨_, rfl, ⟨⟨_, _, _, _, rfl, ?_⟩⟩, BW.out⟩
      exact HH.out.kept (fun k hk => ⟨Or.inl hk, BW.out.block k (HS.out k hk)⟩)
    · rw [if_neg h0]
      have HST := Lib.hid (fun (W : World) => rstep_t (af := af) (an := an) (az := az) (aa := aa) (cf := cf) (cn := cn) (cs := cs) (ca := ca) hB h0 W)
      have HH := Lib.hid hR
      have HS := Lib.hid hS
      have HB := Lib.hid hB
      have HT := Lib.hid (Fr.make w (.slice af s.files.length cf) (.slice an s.now.length cn) (.slice az s.sure.length cs) (.slice aa s.acts.length ca) (s.room : Int) (s.steps : Int) (lim s))
      clear hR hS hB
      unfold fsV zrow at HT
      unfold fsV
      unfold fsV at HST
      go_enter Tryz.func32, Tryz.ntmps32
      go_upto_region 1 with fail
      obtain ⟨w2, hw2⟩ : ∃ x, ((w.alloc (.cells #[.slice af s.files.length cf, .slice an s.now.length cn, .slice az s.sure.length cs, .slice aa s.acts.length ca, .int .i64 (s.room : Int), .int .i64 (s.steps : Int), .int .i64 (lim s)] 33)).alloc (.cells #[.slice none 0 0, .slice none 0 0, .slice none 0 0, .slice none 0 0, .int .i64 0, .int .i64 0, .int .i64 0] 33)) = x := ⟨_, rfl⟩
      rw [hw2] at HT ⊢
      clear hw2
      obtain ⟨q0, q1, q2, q3, q4, q5, q6⟩ := HT.out.cells
      have fq := HT.out.free
      have HF1 := Lib.hid (HF.out w2 HT.out.below)
      clear HF
      go_wp2_with fail
      refine HF1.out.mono ?_
      rintro e w3 ⟨rfl, rfl⟩
      clear HF1
      go_wp2_with fail
      refine (HST.out w3).mono ?_
      rintro e w0 ⟨rfl, b0⟩
      have F3 := Lib.hid (HT.out.call b0)
      clear b0 q0 q1 q2 q3 q4 q5 q6 fq
      obtain ⟨q0, q1, q2, q3, q4, q5, q6⟩ := F3.out.cells
      have fq := F3.out.free
      go_upto_region 6 with fail
      obtain ⟨w4, hW⟩ : ∃ x, ((((((w0.setCell ⟨w.heap.size, 0, none⟩ (.slice af s.files.length cf)).setCell ⟨w.heap.size, 1, none⟩ (.slice an s.now.length cn)).setCell ⟨w.heap.size, 2, none⟩ (.slice az s.sure.length cs)).setCell ⟨w.heap.size, 3, none⟩ (.slice aa s.acts.length ca)).setCell ⟨w.heap.size, 4, none⟩ (.int .i64 (s.room : Int))).setCell ⟨w.heap.size, 5, none⟩ (.int .i64 ((tick s).steps : Int))).setCell ⟨w.heap.size, 6, none⟩ (.int .i64 (lim (tick s))) = x := ⟨_, rfl⟩
      rw [hW]
      have ht := F3.out.put hW
      have F4 := Lib.hid ht.1
      have P4 := Lib.hid ht.2
      clear hW ht q0 q1 q2 q3 q4 q5 q6 fq
      have HR4 := Lib.hid (HH.out.kept (S' := S) (w' := w4) (fun k hk => ⟨hk, F4.out.below.block k (HS.out k hk)⟩))
      have HFL := Lib.hid (rchange_any S af an az aa cf cn cs ca (s.room : Int) ((tick s).steps : Int) (lim (tick s)) s ⟨x, [], none⟩ w4 HR4.out (fun k hk => Nat.lt_of_lt_of_le (HS.out k hk) F4.out.below.size) HB.out.ok.nowOk.rise (fun p hp => (HB.out.ok.nowOk.nm p hp).1) (by have h1 := HB.out.ok.nowLen; have h2 := HB.out.st; omega) (by have h1 := HB.out.ok.cnt; have h2 := HB.out.st; omega))
      unfold fsV at HFL
      obtain ⟨q0, q1, q2, q3, q4, q5, q6⟩ := F4.out.cells
      have fq := F4.out.free
      go_wp2_with fail
      refine HFL.out.mono ?_
      rintro e w5 ⟨vn, va, rfl, R5, b5⟩
      obtain ⟨z5, k5, rfl⟩ := CellsC.shape R5.now
      obtain ⟨y5, j5, rfl⟩ := CellsC.shape R5.acts
      obtain ⟨m5, hm5⟩ : ∃ q, (chg s ⟨x, [], none⟩).now.length = q := ⟨_, rfl⟩
      obtain ⟨n5, hn5⟩ : ∃ q, (chg s ⟨x, [], none⟩).acts.length = q := ⟨_, rfl⟩
      rw [hm5, hn5] at R5 ⊢
      clear hm5 hn5
      have HR5 := Lib.hid R5
      have F5 := Lib.hid (F4.out.call b5)
      have ZB5 := Lib.hid b5.size
      clear b5 R5 HFL q0 q1 q2 q3 q4 q5 q6 fq
      have Z5 := Lib.hid F4.out.below.size
      obtain ⟨r0, r1, r2, r3, r4, r5, r6⟩ := F5.out.rcells
      have fr := F5.out.rfree
      go_wp2_with fail
      obtain ⟨W, hW⟩ : ∃ x, ((((((w5.setCell ⟨w.heap.size + 1, 0, none⟩ (.slice af s.files.length cf)).setCell ⟨w.heap.size + 1, 1, none⟩ (.slice z5 m5 k5)).setCell ⟨w.heap.size + 1, 2, none⟩ (.slice az s.sure.length cs)).setCell ⟨w.heap.size + 1, 3, none⟩ (.slice y5 n5 j5)).setCell ⟨w.heap.size + 1, 4, none⟩ (.int .i64 (s.room : Int))).setCell ⟨w.heap.size + 1, 5, none⟩ (.int .i64 ((tick s).steps : Int))).setCell ⟨w.heap.size + 1, 6, none⟩ (.int .i64 (lim (tick s))) = x := ⟨_, rfl⟩
      rw [hW]
      obtain ⟨hX, hP, hBe⟩ := F5.out.fin hW
      have PW := Lib.hid hP
      have BW := Lib.hid hBe
      clear hW hP hBe  r0 r1 r2 r3 r4 r5 r6 fr
      obtain ⟨q0, q1, q2, q3, q4, q5, q6⟩ := hX.cells
      clear hX
      refine bodyPost_ret (v := .tuple #[.agg #[.slice af s.files.length cf, .slice z5 m5 k5, .slice az s.sure.length cs, .slice y5 n5 j5, .int .i64 (s.room : Int), .int .i64 ((tick s).steps : Int), .int .i64 (lim (tick s))], .int .i64 0]) (by simp [results, Tryz.results32, go_sem, q0, q1, q2, q3, q4, q5, q6]) rfl ⟨_, rfl, ⟨⟨_, _, _, _, rfl, ?_⟩⟩, BW.out⟩
      have hz := PW.out.size
      have hz4 := Z5.out
      have hlt := F4.out.lt
      have hz5 := ZB5.out
      have hK : ∀ k, (S k ∨ (w4.heap.size ≤ k ∧ k < w5.heap.size)) → (S k ∨ (w.heap.size ≤ k ∧ k < W.heap.size)) ∧ W.heap[k]? = w5.heap[k]? := fun k hk => by
        rcases hk with hk | hk
        · have h1 := HS.out k hk
          exact ⟨Or.inl hk, PW.out.far k (by omega)⟩
        · exact ⟨Or.inr ⟨by omega, by omega⟩, PW.out.far k (by omega)⟩
      have h := HR5.out.kept hK
      exact ⟨h.files, h.now, h.sure, h.acts⟩
end Go.Proofs.YtjefcalndfcmdaaGreatDoor
namespace Go.Proofs.YtjefcalndfcmdaaGreatDoor
open Go.RowKit Go.Maps
attribute [local go_sem ↓] Go.wp_at_zero Go.wp_at_succ
set_option maxRecDepth 100000 in
set_option maxHeartbeats 4000000 in
theorem rSync_any (S : Nat → Prop) (v : Value) (s : Fs) (x : Nm) (w : World) (h : FsV S w v s) (hS : ∀ k, S k → k < w.heap.size) (hB : Bd s) :
    Calls Tryz.prog 29 #[v, .string ⟨x.toArray⟩] w (RP S w (syncS s x).1 (syncS s x).2) := by
  obtain ⟨af, an, az, aa, cf, cn, cs, ca, rfl, hR⟩ := h.shape
  clear h
  have HF := Lib.hid (fun (W : World) (hb : Below w.heap.size w W) => rfind_any S (.slice an s.now.length cn) s.now x W (hR.now.kept (fun k hk => ⟨hk, hb.block k (hS k hk)⟩)) (by have h1 := hB.ok.nowLen; have h2 := hB.st; omega))
  unfold syncS
  cases hf : fnd s.now x with
  | none =>
    have hI : fndI s.now x = -1 := by unfold fndI; rw [hf]
    rw [hI] at HF
    clear hI hf
    dsimp only
    have HH := Lib.hid hR
    have HS := Lib.hid hS
    have HB := Lib.hid hB
    have HT := Lib.hid (Fr.make w (.slice af s.files.length cf) (.slice an s.now.length cn) (.slice az s.sure.length cs) (.slice aa s.acts.length ca) (s.room : Int) (s.steps : Int) (lim s))
    clear hR hS hB
    unfold fsV zrow at HT
    unfold fsV
    go_enter Tryz.func29, Tryz.ntmps29
    go_upto_region 1 with fail
    obtain ⟨w2, hw2⟩ : ∃ x, ((w.alloc (.cells #[.slice af s.files.length cf, .slice an s.now.length cn, .slice az s.sure.length cs, .slice aa s.acts.length ca, .int .i64 (s.room : Int), .int .i64 (s.steps : Int), .int .i64 (lim s)] 33)).alloc (.cells #[.slice none 0 0, .slice none 0 0, .slice none 0 0, .slice none 0 0, .int .i64 0, .int .i64 0, .int .i64 0] 33)) = x := ⟨_, rfl⟩
    rw [hw2] at HT ⊢
    clear hw2
    obtain ⟨q0, q1, q2, q3, q4, q5, q6⟩ := HT.out.cells
    have fq := HT.out.free
    have HF1 := Lib.hid (HF.out w2 HT.out.below)
    clear HF
    go_wp2_with fail
    refine HF1.out.mono ?_
    rintro e w3 ⟨rfl, rfl⟩
    clear HF1
    obtain ⟨r0, r1, r2, r3, r4, r5, r6⟩ := HT.out.rcells
    have fr := HT.out.rfree
    go_wp2_with fail
    obtain ⟨W, hW⟩ : ∃ x, ((((((w3.setCell ⟨w.heap.size + 1, 0, none⟩ (.slice af s.files.length cf)).setCell ⟨w.heap.size + 1, 1, none⟩ (.slice an s.now.length cn)).setCell ⟨w.heap.size + 1, 2, none⟩ (.slice az s.sure.length cs)).setCell ⟨w.heap.size + 1, 3, none⟩ (.slice aa s.acts.length ca)).setCell ⟨w.heap.size + 1, 4, none⟩ (.int .i64 (s.room : Int))).setCell ⟨w.heap.size + 1, 5, none⟩ (.int .i64 (s.steps : Int))).setCell ⟨w.heap.size + 1, 6, none⟩ (.int .i64 (lim s)) = x := ⟨_, rfl⟩
    rw [hW]
    obtain ⟨hX, hP, hBe⟩ := HT.out.fin hW
    have PW := Lib.hid hP
    have BW := Lib.hid hBe
    clear hW hP hBe q0 q1 q2 q3 q4 q5 q6 fq r0 r1 r2 r3 r4 r5 r6 fr
    obtain ⟨q0, q1, q2, q3, q4, q5, q6⟩ := hX.cells
    clear hX
    refine bodyPost_ret (v := .tuple #[.agg #[.slice af s.files.length cf, .slice an s.now.length cn, .slice az s.sure.length cs, .slice aa s.acts.length ca, .int .i64 (s.room : Int), .int .i64 (s.steps : Int), .int .i64 (lim s)], .int .i64 4]) (by simp [results, Tryz.results29, go_sem, q0, q1, q2, q3, q4, q5, q6]) rfl ⟨_, rfl, ⟨⟨_, _, _, _, rfl, ?_⟩⟩, BW.out⟩
    exact HH.out.kept (fun k hk => ⟨Or.inl hk, BW.out.block k (HS.out k hk)⟩)
  | some i =>
    have hI : fndI s.now x = (i : Int) := by unfold fndI; rw [hf]
    rw [hI] at HF
    have hif : i < s.files.length := hB.ok.nowOk.lt _ (fnd_mem hf)
    obtain ⟨g2, o2, haf, hSg, _, _, hat⟩ := CellsC.at hR.files (by omega)
    subst haf
    have hc := fiV_at hif
    have HC0 : Hid (∀ W, Below w.heap.size w W → W.cell? ⟨g2, o2 + i * 2, none⟩ = some (.string ⟨(s.files.getD i noFi).data.toArray⟩)) := Lib.hid (fun W hb => (hb.cell (p := ⟨g2, o2 + i * 2, none⟩) (hS _ hSg)).trans (hat _ _ hc.1))
    have HC1 : Hid (∀ W, Below w.heap.size w W → W.cell? ⟨g2, o2 + i * 2 + 1, none⟩ = some (.int .i64 ((s.files.getD i noFi).dur : Int))) := Lib.hid (fun W hb => (hb.cell (p := ⟨g2, o2 + i * 2 + 1, none⟩) (hS _ hSg)).trans (hat _ _ hc.2))
    have hok := hB.ok.dat _ (getD_mem hif)
    obtain ⟨d, hd⟩ : ∃ q, (s.files.getD i noFi).data = q := ⟨_, rfl⟩
    obtain ⟨u, hu⟩ : ∃ q, (s.files.getD i noFi).dur = q := ⟨_, rfl⟩
    rw [hd, hu] at hok
    rw [hd] at HC0
    rw [hu] at HC1
    have HDE := Lib.hid hd
    have HUE := Lib.hid hu
    clear hat hc hSg hd hu
    have hib : i ≤ 4194304 := by have h1 := hB.fl; have h2 := hB.st; omega
    clear hI hf
    dsimp only
    by_cases h0 : s.more = 0
    · rw [if_pos h0]
      have HST := Lib.hid (fun (W : World) => rstep_c (af := some ⟨g2, o2, none⟩) (an := an) (az := az) (aa := aa) (cf := cf) (cn := cn) (cs := cs) (ca := ca) h0 W)
      have HH := Lib.hid hR
      have HS := Lib.hid hS
      have HB := Lib.hid hB
      have HT := Lib.hid (Fr.make w (.slice (some ⟨g2, o2, none⟩) s.files.length cf) (.slice an s.now.length cn) (.slice az s.sure.length cs) (.slice aa s.acts.length ca) (s.room : Int) (s.steps : Int) (lim s))
      clear hR hS hB
      unfold fsV zrow at HT
      unfold fsV
      unfold fsV at HST
      go_enter Tryz.func29, Tryz.ntmps29
      go_upto_region 1 with fail
      obtain ⟨w2, hw2⟩ : ∃ x, ((w.alloc (.cells #[.slice (some ⟨g2, o2, none⟩) s.files.length cf, .slice an s.now.length cn, .slice az s.sure.length cs, .slice aa s.acts.length ca, .int .i64 (s.room : Int), .int .i64 (s.steps : Int), .int .i64 (lim s)] 33)).alloc (.cells #[.slice none 0 0, .slice none 0 0, .slice none 0 0, .slice none 0 0, .int .i64 0, .int .i64 0, .int .i64 0] 33)) = x := ⟨_, rfl⟩
      rw [hw2] at HT ⊢
      clear hw2
      obtain ⟨q0, q1, q2, q3, q4, q5, q6⟩ := HT.out.cells
      have fq := HT.out.free
      have HF1 := Lib.hid (HF.out w2 HT.out.below)
      clear HF
      go_wp2_with fail
      refine HF1.out.mono ?_
      rintro e w3 ⟨rfl, rfl⟩
      clear HF1
      go_wp2_with fail
      refine (HST.out w3).mono ?_
      rintro e w4 ⟨rfl, b0⟩
      have F3 := Lib.hid (HT.out.call b0)
      clear b0 q0 q1 q2 q3 q4 q5 q6 fq
      obtain ⟨q0, q1, q2, q3, q4, q5, q6⟩ := F3.out.cells
      have fq := F3.out.free
      go_upto_region 5 with fail
      obtain ⟨w5, hW⟩ : ∃ x, ((((((w4.setCell ⟨w.heap.size, 0, none⟩ (.slice (some ⟨g2, o2, none⟩) s.files.length cf)).setCell ⟨w.heap.size, 1, none⟩ (.slice an s.now.length cn)).setCell ⟨w.heap.size, 2, none⟩ (.slice az s.sure.length cs)).setCell ⟨w.heap.size, 3, none⟩ (.slice aa s.acts.length ca)).setCell ⟨w.heap.size, 4, none⟩ (.int .i64 (s.room : Int))).setCell ⟨w.heap.size, 5, none⟩ (.int .i64 (s.steps : Int))).setCell ⟨w.heap.size, 6, none⟩ (.int .i64 (lim s)) = x := ⟨_, rfl⟩
      rw [hW]
      have ht := F3.out.put hW
      have F4 := Lib.hid ht.1
      have P4 := Lib.hid ht.2
      clear hW ht q0 q1 q2 q3 q4 q5 q6 fq
      obtain ⟨q0, q1, q2, q3, q4, q5, q6⟩ := F4.out.cells
      obtain ⟨r0, r1, r2, r3, r4, r5, r6⟩ := F4.out.rcells
      have fr := F4.out.rfree
      go_wp2_with fail
      obtain ⟨W, hW⟩ : ∃ x, ((((((w5.setCell ⟨w.heap.size + 1, 0, none⟩ (.slice (some ⟨g2, o2, none⟩) s.files.length cf)).setCell ⟨w.heap.size + 1, 1, none⟩ (.slice an s.now.length cn)).setCell ⟨w.heap.size + 1, 2, none⟩ (.slice az s.sure.length cs)).setCell ⟨w.heap.size + 1, 3, none⟩ (.slice aa s.acts.length ca)).setCell ⟨w.heap.size + 1, 4, none⟩ (.int .i64 (s.room : Int))).setCell ⟨w.heap.size + 1, 5, none⟩ (.int .i64 (s.steps : Int))).setCell ⟨w.heap.size + 1, 6, none⟩ (.int .i64 (lim s)) = x := ⟨_, rfl⟩
      rw [hW]
      obtain ⟨hX, hP, hBe⟩ := F4.out.fin hW
      have PW := Lib.hid hP
      have BW := Lib.hid hBe
      clear hW hP hBe q0 q1 q2 q3 q4 q5 q6 r0 r1 r2 r3 r4 r5 r6 fr
      obtain ⟨q0, q1, q2, q3, q4, q5, q6⟩ := hX.cells
      clear hX
      refine bodyPost_ret (v := .tuple #[.agg #[.slice (some ⟨g2, o2, none⟩) s.files.length cf, .slice an s.now.length cn, .slice az s.sure.length cs, .slice aa s.acts.length ca, .int .i64 (s.room : Int), .int .i64 (s.steps : Int), .int .i64 (lim s)], .int .i64 190]) (by simp [results, Tryz.results29, go_sem, q0, q1, q2, q3, q4, q5, q6]) rfl ⟨_, rfl, ⟨⟨_, _, _, _, rfl, ?_⟩⟩, BW.out⟩
      exact HH.out.kept (fun k hk => ⟨Or.inl hk, BW.out.block k (HS.out k hk)⟩)
    · rw [if_neg h0]
      rw [HDE.out]
      have HST := Lib.hid (fun (W : World) => rstep_t (af := some ⟨g2, o2, none⟩) (an := an) (az := az) (aa := aa) (cf := cf) (cn := cn) (cs := cs) (ca := ca) hB h0 W)
      have HH := Lib.hid hR
      have HS := Lib.hid hS
      have HB := Lib.hid hB
      have HT := Lib.hid (Fr.make w (.slice (some ⟨g2, o2, none⟩) s.files.length cf) (.slice an s.now.length cn) (.slice az s.sure.length cs) (.slice aa s.acts.length ca) (s.room : Int) (s.steps : Int) (lim s))
      clear hR hS hB
      unfold fsV zrow at HT
      unfold fsV
      unfold fsV at HST
      go_enter Tryz.func29, Tryz.ntmps29
      go_upto_region 1 with fail
      obtain ⟨w2, hw2⟩ : ∃ x, ((w.alloc (.cells #[.slice (some ⟨g2, o2, none⟩) s.files.length cf, .slice an s.now.length cn, .slice az s.sure.length cs, .slice aa s.acts.length ca, .int .i64 (s.room : Int), .int .i64 (s.steps : Int), .int .i64 (lim s)] 33)).alloc (.cells #[.slice none 0 0, .slice none 0 0, .slice none 0 0, .slice none 0 0, .int .i64 0, .int .i64 0, .int .i64 0] 33)) = x := ⟨_, rfl⟩
      rw [hw2] at HT ⊢
      clear hw2
      obtain ⟨q0, q1, q2, q3, q4, q5, q6⟩ := HT.out.cells
      have fq := HT.out.free
      have HF1 := Lib.hid (HF.out w2 HT.out.below)
      clear HF
      go_wp2_with fail
      refine HF1.out.mono ?_
      rintro e w3 ⟨rfl, rfl⟩
      clear HF1
      go_wp2_with fail
      refine (HST.out w3).mono ?_
      rintro e w0 ⟨rfl, b0⟩
      have F3 := Lib.hid (HT.out.call b0)
      clear b0 q0 q1 q2 q3 q4 q5 q6 fq
      obtain ⟨q0, q1, q2, q3, q4, q5, q6⟩ := F3.out.cells
      have fq := F3.out.free
      go_upto_region 7 with fail
      obtain ⟨w6, hW⟩ : ∃ x, ((((((w0.setCell ⟨w.heap.size, 0, none⟩ (.slice (some ⟨g2, o2, none⟩) s.files.length cf)).setCell ⟨w.heap.size, 1, none⟩ (.slice an s.now.length cn)).setCell ⟨w.heap.size, 2, none⟩ (.slice az s.sure.length cs)).setCell ⟨w.heap.size, 3, none⟩ (.slice aa s.acts.length ca)).setCell ⟨w.heap.size, 4, none⟩ (.int .i64 (s.room : Int))).setCell ⟨w.heap.size, 5, none⟩ (.int .i64 ((tick s).steps : Int))).setCell ⟨w.heap.size, 6, none⟩ (.int .i64 (lim (tick s))) = x := ⟨_, rfl⟩
      rw [hW]
      have ht := F3.out.put hW
      have F4 := Lib.hid ht.1
      have P4 := Lib.hid ht.2
      clear hW ht q0 q1 q2 q3 q4 q5 q6 fq
      have FD := Lib.hid (F4.out.drew 1)
      have hwd : w6.drewN 1 = w6.drew := rfl
      rw [hwd] at FD
      clear hwd
      have HR4 := Lib.hid (HH.out.kept (S' := S) (w' := w6.drew) (fun k hk => ⟨hk, FD.out.below.block k (HS.out k hk)⟩))
      have HFL := Lib.hid (rput_any S (some ⟨g2, o2, none⟩) an az aa cf cn cs ca (s.room : Int) ((tick s).steps : Int) (lim (tick s)) s i ⟨d, d.length⟩ w6.drew HR4.out (fun k hk => Nat.lt_of_lt_of_le (HS.out k hk) FD.out.below.size) hif (by have h1 := HB.out.fl; have h2 := HB.out.st; omega))
      unfold fsV at HFL
      dsimp only at HFL
      have d0 := HC0.out _ FD.out.below
      obtain ⟨q0, q1, q2, q3, q4, q5, q6⟩ := FD.out.cells
      have fq := FD.out.free
      go_upto_region 7 with fail
      go_still_tail 16, (by kernel_rfl)
      change wpList _ _ _ _ _ w6.drew
      generalize w6.drew = w4 at *
      clear d0 q0 q1 q2 q3 q4 q5 q6 fq
      go_wp2_with fail
      refine HFL.out.mono ?_
      rintro e w5 ⟨vf, rfl, R5, b5⟩
      obtain ⟨z5, k5, rfl⟩ := CellsC.shape R5.files
      obtain ⟨m5, hm5⟩ : ∃ q, (s.files.set i ⟨d, d.length⟩).length = q := ⟨_, rfl⟩
      dsimp only at R5 ⊢
      rw [hm5] at R5 ⊢
      clear hm5
      have HR5 := Lib.hid R5
      have F5 := Lib.hid (FD.out.call b5)
      have ZB5 := Lib.hid b5.size
      have Z5 := Lib.hid FD.out.below.size
      clear b5 R5 HFL
      obtain ⟨r0, r1, r2, r3, r4, r5, r6⟩ := F5.out.rcells
      have fr := F5.out.rfree
      go_wp2_with fail
      obtain ⟨W, hW⟩ : ∃ x, ((((((w5.setCell ⟨w.heap.size + 1, 0, none⟩ (.slice z5 m5 k5)).setCell ⟨w.heap.size + 1, 1, none⟩ (.slice an s.now.length cn)).setCell ⟨w.heap.size + 1, 2, none⟩ (.slice az s.sure.length cs)).setCell ⟨w.heap.size + 1, 3, none⟩ (.slice aa s.acts.length ca)).setCell ⟨w.heap.size + 1, 4, none⟩ (.int .i64 (s.room : Int))).setCell ⟨w.heap.size + 1, 5, none⟩ (.int .i64 ((tick s).steps : Int))).setCell ⟨w.heap.size + 1, 6, none⟩ (.int .i64 (lim (tick s))) = x := ⟨_, rfl⟩
      rw [hW]
      obtain ⟨hX, hP, hBe⟩ := F5.out.fin hW
      have PW := Lib.hid hP
      have BW := Lib.hid hBe
      clear hW hP hBe  r0 r1 r2 r3 r4 r5 r6 fr
      obtain ⟨q0, q1, q2, q3, q4, q5, q6⟩ := hX.cells
      clear hX
      refine bodyPost_ret (v := .tuple #[.agg #[.slice z5 m5 k5, .slice an s.now.length cn, .slice az s.sure.length cs, .slice aa s.acts.length ca, .int .i64 (s.room : Int), .int .i64 ((tick s).steps : Int), .int .i64 (lim (tick s))], .int .i64 0]) (by simp [results, Tryz.results29, go_sem, q0, q1, q2, q3, q4, q5, q6]) rfl ⟨_, rfl, ⟨⟨_, _, _, _, rfl, ?_⟩⟩, BW.out⟩
      have hz := PW.out.size
      have hz4 := Z5.out
      have hlt := FD.out.lt
      have hz5 := ZB5.out
      have hK : ∀ k, (S k ∨ (w4.heap.size ≤ k ∧ k < w5.heap.size)) → (S k ∨ (w.heap.size ≤ k ∧ k < W.heap.size)) ∧ W.heap[k]? = w5.heap[k]? := fun k hk => by
        rcases hk with hk | hk
        · have h1 := HS.out k hk
          exact ⟨Or.inl hk, PW.out.far k (by omega)⟩
        · exact ⟨Or.inr ⟨by omega, by omega⟩, PW.out.far k (by omega)⟩
      have h := HR5.out.kept hK
      exact ⟨h.files, h.now, h.sure, h.acts⟩
end Go.Proofs.YtjefcalndfcmdaaGreatDoor
namespace Go.Proofs.YtjefcalndfcmdaaGreatDoor
open Go.RowKit Go.Maps
attribute [local go_sem ↓] Go.wp_at_zero Go.wp_at_succ
theorem str_to (x : List UInt8) (k : Nat) (h2 : k ≤ x.length) (w : World) : (Instr.slice 9 (.string ⟨x.toArray⟩) none (some (.int .i64 (k : Int))) none).run Tryz.prog w = .ok (.string ⟨(x.take k).toArray⟩) w := by
  rw [run_slice_string_h w _ _ (by kernel_rfl) _ _ (by omega) (by rw [at_size]; omega)]
  congr 2
  have e2 : (k : Int).toNat = k := by omega
  rw [e2, extract_list]
  simp
set_option maxRecDepth 100000 in
set_option maxHeartbeats 4000000 in
theorem rCut_any (S : Nat → Prop) (v : Value) (s : Fs) (x : Nm) (n : Int) (w : World) (h : FsV S w v s) (hS : ∀ k, S k → k < w.heap.size) (hB : Bd s) :
    Calls Tryz.prog 28 #[v, .string ⟨x.toArray⟩, .int .i64 n] w (RP S w (cutS s x n).1 (cutS s x n).2) := by
  obtain ⟨af, an, az, aa, cf, cn, cs, ca, rfl, hR⟩ := h.shape
  clear h
  have HF := Lib.hid (fun (W : World) (hb : Below w.heap.size w W) => rfind_any S (.slice an s.now.length cn) s.now x W (hR.now.kept (fun k hk => ⟨hk, hb.block k (hS k hk)⟩)) (by have h1 := hB.ok.nowLen; have h2 := hB.st; omega))
  unfold cutS
  cases hf : fnd s.now x with
  | none =>
    have hI : fndI s.now x = -1 := by unfold fndI; rw [hf]
    rw [hI] at HF
    clear hI hf
    dsimp only
    have HH := Lib.hid hR
    have HS := Lib.hid hS
    have HB := Lib.hid hB
    have HT := Lib.hid (Fr.make w (.slice af s.files.length cf) (.slice an s.now.length cn) (.slice az s.sure.length cs) (.slice aa s.acts.length ca) (s.room : Int) (s.steps : Int) (lim s))
    clear hR hS hB
    unfold fsV zrow at HT
    unfold fsV
    go_enter Tryz.func28, Tryz.ntmps28
    go_upto_region 1 with fail
    obtain ⟨w2, hw2⟩ : ∃ x, ((w.alloc (.cells #[.slice af s.files.length cf, .slice an s.now.length cn, .slice az s.sure.length cs, .slice aa s.acts.length ca, .int .i64 (s.room : Int), .int .i64 (s.steps : Int), .int .i64 (lim s)] 33)).alloc (.cells #[.slice none 0 0, .slice none 0 0, .slice none 0 0, .slice none 0 0, .int .i64 0, .int .i64 0, .int .i64 0] 33)) = x := ⟨_, rfl⟩
    rw [hw2] at HT ⊢
    clear hw2
    obtain ⟨q0, q1, q2, q3, q4, q5, q6⟩ := HT.out.cells
    have fq := HT.out.free
    have HF1 := Lib.hid (HF.out w2 HT.out.below)
    clear HF
    go_wp2_with fail
    refine HF1.out.mono ?_
    rintro e w3 ⟨rfl, rfl⟩
    clear HF1
    obtain ⟨r0, r1, r2, r3, r4, r5, r6⟩ := HT.out.rcells
    have fr := HT.out.rfree
    go_wp2_with fail
    obtain ⟨W, hW⟩ : ∃ x, ((((((w3.setCell ⟨w.heap.size + 1, 0, none⟩ (.slice af s.files.length cf)).setCell ⟨w.heap.size + 1, 1, none⟩ (.slice an s.now.length cn)).setCell ⟨w.heap.size + 1, 2, none⟩ (.slice az s.sure.length cs)).setCell ⟨w.heap.size + 1, 3, none⟩ (.slice aa s.acts.length ca)).setCell ⟨w.heap.size + 1, 4, none⟩ (.int .i64 (s.room : Int))).setCell ⟨w.heap.size + 1, 5, none⟩ (.int .i64 (s.steps : Int))).setCell ⟨w.heap.size + 1, 6, none⟩ (.int .i64 (lim s)) = x := ⟨_, rfl⟩
    rw [hW]
    obtain ⟨hX, hP, hBe⟩ := HT.out.fin hW
    have PW := Lib.hid hP
    have BW := Lib.hid hBe
    clear hW hP hBe q0 q1 q2 q3 q4 q5 q6 fq r0 r1 r2 r3 r4 r5 r6 fr
    obtain ⟨q0, q1, q2, q3, q4, q5, q6⟩ := hX.cells
    clear hX
    refine bodyPost_ret (v := .tuple #[.agg #[.slice af s.files.length cf, .slice an s.now.length cn, .slice az s.sure.length cs, .slice aa s.acts.length ca, .int .i64 (s.room : Int), .int .i64 (s.steps : Int), .int .i64 (lim s)], .int .i64 4]) (by simp [results, Tryz.results28, go_sem, q0, q1, q2, q3, q4, q5, q6]) rfl ⟨_, rfl, ⟨⟨_, _, _, _, rfl, ?_⟩⟩, BW.out⟩
    exact HH.out.kept (fun k hk => ⟨Or.inl hk, BW.out.block k (HS.out k hk)⟩)
  | some i =>
    have hI : fndI s.now x = (i : Int) := by unfold fndI; rw [hf]
    rw [hI] at HF
    have hif : i < s.files.length := hB.ok.nowOk.lt _ (fnd_mem hf)
    obtain ⟨g2, o2, haf, hSg, _, _, hat⟩ := CellsC.at hR.files (by omega)
    subst haf
    have hc := fiV_at hif
    have HC0 : Hid (∀ W, Below w.heap.size w W → W.cell? ⟨g2, o2 + i * 2, none⟩ = some (.string ⟨(s.files.getD i noFi).data.toArray⟩)) := Lib.hid (fun W hb => (hb.cell (p := ⟨g2, o2 + i * 2, none⟩) (hS _ hSg)).trans (hat _ _ hc.1))
    have HC1 : Hid (∀ W, Below w.heap.size w W → W.cell? ⟨g2, o2 + i * 2 + 1, none⟩ = some (.int .i64 ((s.files.getD i noFi).dur : Int))) := Lib.hid (fun W hb => (hb.cell (p := ⟨g2, o2 + i * 2 + 1, none⟩) (hS _ hSg)).trans (hat _ _ hc.2))
    have hok := hB.ok.dat _ (getD_mem hif)
    obtain ⟨d, hd⟩ : ∃ q, (s.files.getD i noFi).data = q := ⟨_, rfl⟩
    obtain ⟨u, hu⟩ : ∃ q, (s.files.getD i noFi).dur = q := ⟨_, rfl⟩
    rw [hd, hu] at hok
    rw [hd] at HC0
    rw [hu] at HC1
    have HDE := Lib.hid hd
    have HUE := Lib.hid hu
    clear hat hc hSg hd hu
    have hib : i ≤ 4194304 := by have h1 := hB.fl; have h2 := hB.st; omega
    clear hI hf
    dsimp only
    rw [HDE.out]
    by_cases hn : n < 0
    · rw [if_pos (Or.inl hn)]
      have y0 : decide (n < 0) = true := decide_eq_true hn
      clear hn
      have HH := Lib.hid hR
      have HS := Lib.hid hS
      have HB := Lib.hid hB
      have HT := Lib.hid (Fr.make w (.slice (some ⟨g2, o2, none⟩) s.files.length cf) (.slice an s.now.length cn) (.slice az s.sure.length cs) (.slice aa s.acts.length ca) (s.room : Int) (s.steps : Int) (lim s))
      clear hR hS hB
      unfold fsV zrow at HT
      unfold fsV
      go_enter Tryz.func28, Tryz.ntmps28
      go_upto_region 1 with fail
      obtain ⟨w2, hw2⟩ : ∃ x, ((w.alloc (.cells #[.slice (some ⟨g2, o2, none⟩) s.files.length cf, .slice an s.now.length cn, .slice az s.sure.length cs, .slice aa s.acts.length ca, .int .i64 (s.room : Int), .int .i64 (s.steps : Int), .int .i64 (lim s)] 33)).alloc (.cells #[.slice none 0 0, .slice none 0 0, .slice none 0 0, .slice none 0 0, .int .i64 0, .int .i64 0, .int .i64 0] 33)) = x := ⟨_, rfl⟩
      rw [hw2] at HT ⊢
      clear hw2
      obtain ⟨q0, q1, q2, q3, q4, q5, q6⟩ := HT.out.cells
      have fq := HT.out.free
      have HF1 := Lib.hid (HF.out w2 HT.out.below)
      clear HF
      go_wp2_with fail
      refine HF1.out.mono ?_
      rintro e w3 ⟨rfl, rfl⟩
      clear HF1
      obtain ⟨r0, r1, r2, r3, r4, r5, r6⟩ := HT.out.rcells
      have fr := HT.out.rfree
      go_wp2_with fail
      obtain ⟨W, hW⟩ : ∃ x, ((((((w3.setCell ⟨w.heap.size + 1, 0, none⟩ (.slice (some ⟨g2, o2, none⟩) s.files.length cf)).setCell ⟨w.heap.size + 1, 1, none⟩ (.slice an s.now.length cn)).setCell ⟨w.heap.size + 1, 2, none⟩ (.slice az s.sure.length cs)).setCell ⟨w.heap.size + 1, 3, none⟩ (.slice aa s.acts.length ca)).setCell ⟨w.heap.size + 1, 4, none⟩ (.int .i64 (s.room : Int))).setCell ⟨w.heap.size + 1, 5, none⟩ (.int .i64 (s.steps : Int))).setCell ⟨w.heap.size + 1, 6, none⟩ (.int .i64 (lim s)) = x := ⟨_, rfl⟩
      rw [hW]
      obtain ⟨hX, hP, hBe⟩ := HT.out.fin hW
      have PW := Lib.hid hP
      have BW := Lib.hid hBe
      clear hW hP hBe q0 q1 q2 q3 q4 q5 q6 fq r0 r1 r2 r3 r4 r5 r6 fr
      obtain ⟨q0, q1, q2, q3, q4, q5, q6⟩ := hX.cells
      clear hX
      refine bodyPost_ret (v := .tuple #[.agg #[.slice (some ⟨g2, o2, none⟩) s.files.length cf, .slice an s.now.length cn, .slice az s.sure.length cs, .slice aa s.acts.length ca, .int .i64 (s.room : Int), .int .i64 (s.steps : Int), .int .i64 (lim s)], .int .i64 1]) (by simp [results, Tryz.results28, go_sem, q0, q1, q2, q3, q4, q5, q6]) rfl ⟨_, rfl, ⟨⟨_, _, _, _, rfl, ?_⟩⟩, BW.out⟩
      exact HH.out.kept (fun k hk => ⟨Or.inl hk, BW.out.block k (HS.out k hk)⟩)
    · by_cases hm : (d.length : Int) < n
      · rw [if_pos (Or.inr hm)]
        have y0 : decide (n < 0) = false := decide_eq_false hn
        have y1 : decide (n > (d.length : Int)) = true := decide_eq_true hm
        have y2 : decide ((d.length : Int) < n) = true := decide_eq_true hm
        clear hn hm
        have HH := Lib.hid hR
        have HS := Lib.hid hS
        have HB := Lib.hid hB
        have HT := Lib.hid (Fr.make w (.slice (some ⟨g2, o2, none⟩) s.files.length cf) (.slice an s.now.length cn) (.slice az s.sure.length cs) (.slice aa s.acts.length ca) (s.room : Int) (s.steps : Int) (lim s))
        clear hR hS hB
        unfold fsV zrow at HT
        unfold fsV
        go_enter Tryz.func28, Tryz.ntmps28
        go_upto_region 1 with fail
        obtain ⟨w2, hw2⟩ : ∃ x, ((w.alloc (.cells #[.slice (some ⟨g2, o2, none⟩) s.files.length cf, .slice an s.now.length cn, .slice az s.sure.length cs, .slice aa s.acts.length ca, .int .i64 (s.room : Int), .int .i64 (s.steps : Int), .int .i64 (lim s)] 33)).alloc (.cells #[.slice none 0 0, .slice none 0 0, .slice none 0 0, .slice none 0 0, .int .i64 0, .int .i64 0, .int .i64 0] 33)) = x := ⟨_, rfl⟩
        rw [hw2] at HT ⊢
        clear hw2
        have d0 := HC0.out _ HT.out.below
        obtain ⟨q0, q1, q2, q3, q4, q5, q6⟩ := HT.out.cells
        have fq := HT.out.free
        have HF1 := Lib.hid (HF.out w2 HT.out.below)
        clear HF
        go_wp2_with fail
        refine HF1.out.mono ?_
        rintro e w3 ⟨rfl, rfl⟩
        clear HF1
        obtain ⟨r0, r1, r2, r3, r4, r5, r6⟩ := HT.out.rcells
        have fr := HT.out.rfree
        go_wp2_with fail
        obtain ⟨W, hW⟩ : ∃ x, ((((((w3.setCell ⟨w.heap.size + 1, 0, none⟩ (.slice (some ⟨g2, o2, none⟩) s.files.length cf)).setCell ⟨w.heap.size + 1, 1, none⟩ (.slice an s.now.length cn)).setCell ⟨w.heap.size + 1, 2, none⟩ (.slice az s.sure.length cs)).setCell ⟨w.heap.size + 1, 3, none⟩ (.slice aa s.acts.length ca)).setCell ⟨w.heap.size + 1, 4, none⟩ (.int .i64 (s.room : Int))).setCell ⟨w.heap.size + 1, 5, none⟩ (.int .i64 (s.steps : Int))).setCell ⟨w.heap.size + 1, 6, none⟩ (.int .i64 (lim s)) = x := ⟨_, rfl⟩
        rw [hW]
        obtain ⟨hX, hP, hBe⟩ := HT.out.fin hW
        have PW := Lib.hid hP
        have BW := Lib.hid hBe
        clear d0 hW hP hBe q0 q1 q2 q3 q4 q5 q6 fq r0 r1 r2 r3 r4 r5 r6 fr
        obtain ⟨q0, q1, q2, q3, q4, q5, q6⟩ := hX.cells
        clear hX
        refine bodyPost_ret (v := .tuple #[.agg #[.slice (some ⟨g2, o2, none⟩) s.files.length cf, .slice an s.now.length cn, .slice az s.sure.length cs, .slice aa s.acts.length ca, .int .i64 (s.room : Int), .int .i64 (s.steps : Int), .int .i64 (lim s)], .int .i64 1]) (by simp [results, Tryz.results28, go_sem, q0, q1, q2, q3, q4, q5, q6]) rfl ⟨_, rfl, ⟨⟨_, _, _, _, rfl, ?_⟩⟩, BW.out⟩
        exact HH.out.kept (fun k hk => ⟨Or.inl hk, BW.out.block k (HS.out k hk)⟩)
      · rw [if_neg (by omega)]
        obtain ⟨N, rfl⟩ : ∃ N : Nat, n = (N : Int) := ⟨n.toNat, by omega⟩
        have hN : N ≤ d.length := by omega
        have y0 : decide ((N : Int) < 0) = false := decide_eq_false hn
        have y1 : decide ((N : Int) > (d.length : Int)) = false := decide_eq_false hm
        have y2 : decide (d.length < N) = false := decide_eq_false (by omega)
        rw [Int.toNat_natCast]
        clear hn hm
        by_cases h0 : s.more = 0
        · rw [if_pos h0]
          have HST := Lib.hid (fun (W : World) => rstep_c (af := some ⟨g2, o2, none⟩) (an := an) (az := az) (aa := aa) (cf := cf) (cn := cn) (cs := cs) (ca := ca) h0 W)
          have HH := Lib.hid hR
          have HS := Lib.hid hS
          have HB := Lib.hid hB
          have HT := Lib.hid (Fr.make w (.slice (some ⟨g2, o2, none⟩) s.files.length cf) (.slice an s.now.length cn) (.slice az s.sure.length cs) (.slice aa s.acts.length ca) (s.room : Int) (s.steps : Int) (lim s))
          clear hR hS hB
          unfold fsV zrow at HT
          unfold fsV
          unfold fsV at HST
          go_enter Tryz.func28, Tryz.ntmps28
          go_upto_region 1 with fail
          obtain ⟨w2, hw2⟩ : ∃ x, ((w.alloc (.cells #[.slice (some ⟨g2, o2, none⟩) s.files.length cf, .slice an s.now.length cn, .slice az s.sure.length cs, .slice aa s.acts.length ca, .int .i64 (s.room : Int), .int .i64 (s.steps : Int), .int .i64 (lim s)] 33)).alloc (.cells #[.slice none 0 0, .slice none 0 0, .slice none 0 0, .slice none 0 0, .int .i64 0, .int .i64 0, .int .i64 0] 33)) = x := ⟨_, rfl⟩
          rw [hw2] at HT ⊢
          clear hw2
          have d0 := HC0.out _ HT.out.below
          obtain ⟨q0, q1, q2, q3, q4, q5, q6⟩ := HT.out.cells
          have fq := HT.out.free
          have HF1 := Lib.hid (HF.out w2 HT.out.below)
          clear HF
          go_wp2_with fail
          refine HF1.out.mono ?_
          rintro e w3 ⟨rfl, rfl⟩
          clear HF1
          go_wp2_with fail
          refine (HST.out w3).mono ?_
          rintro e w4 ⟨rfl, b0⟩
          have F3 := Lib.hid (HT.out.call b0)
          clear d0
          clear b0 q0 q1 q2 q3 q4 q5 q6 fq
          obtain ⟨q0, q1, q2, q3, q4, q5, q6⟩ := F3.out.cells
          have fq := F3.out.free
          go_upto_region 7 with fail
          obtain ⟨w5, hW⟩ : ∃ x, ((((((w4.setCell ⟨w.heap.size, 0, none⟩ (.slice (some ⟨g2, o2, none⟩) s.files.length cf)).setCell ⟨w.heap.size, 1, none⟩ (.slice an s.now.length cn)).setCell ⟨w.heap.size, 2, none⟩ (.slice az s.sure.length cs)).setCell ⟨w.heap.size, 3, none⟩ (.slice aa s.acts.length ca)).setCell ⟨w.heap.size, 4, none⟩ (.int .i64 (s.room : Int))).setCell ⟨w.heap.size, 5, none⟩ (.int .i64 (s.steps : Int))).setCell ⟨w.heap.size, 6, none⟩ (.int .i64 (lim s)) = x := ⟨_, rfl⟩
          rw [hW]
          have ht := F3.out.put hW
          have F4 := Lib.hid ht.1
          have P4 := Lib.hid ht.2
          clear hW ht q0 q1 q2 q3 q4 q5 q6 fq
          obtain ⟨q0, q1, q2, q3, q4, q5, q6⟩ := F4.out.cells
          obtain ⟨r0, r1, r2, r3, r4, r5, r6⟩ := F4.out.rcells
          have fr := F4.out.rfree
          go_wp2_with fail
          obtain ⟨W, hW⟩ : ∃ x, ((((((w5.setCell ⟨w.heap.size + 1, 0, none⟩ (.slice (some ⟨g2, o2, none⟩) s.files.length cf)).setCell ⟨w.heap.size + 1, 1, none⟩ (.slice an s.now.length cn)).setCell ⟨w.heap.size + 1, 2, none⟩ (.slice az s.sure.length cs)).setCell ⟨w.heap.size + 1, 3, none⟩ (.slice aa s.acts.length ca)).setCell ⟨w.heap.size + 1, 4, none⟩ (.int .i64 (s.room : Int))).setCell ⟨w.heap.size + 1, 5, none⟩ (.int .i64 (s.steps : Int))).setCell ⟨w.heap.size + 1, 6, none⟩ (.int .i64 (lim s)) = x := ⟨_, rfl⟩
          rw [hW]
          obtain ⟨hX, hP, hBe⟩ := F4.out.fin hW
          have PW := Lib.hid hP
          have BW := Lib.hid hBe
          clear hW hP hBe q0 q1 q2 q3 q4 q5 q6 r0 r1 r2 r3 r4 r5 r6 fr
          obtain ⟨q0, q1, q2, q3, q4, q5, q6⟩ := hX.cells
          clear hX
          refine bodyPost_ret (v := .tuple #[.agg #[.slice (some ⟨g2, o2, none⟩) s.files.length cf, .slice an s.now.length cn, .slice az s.sure.length cs, .slice aa s.acts.length ca, .int .i64 (s.room : Int), .int .i64 (s.steps : Int), .int .i64 (lim s)], .int .i64 190]) (by simp [results, Tryz.results28, go_sem, q0, q1, q2, q3, q4, q5, q6]) rfl ⟨_, rfl, ⟨⟨_, _, _, _, rfl, ?_⟩⟩, BW.out⟩
          exact HH.out.kept (fun k hk => ⟨Or.inl hk, BW.out.block k (HS.out k hk)⟩)
        · rw [if_neg h0]
          have HST := Lib.hid (fun (W : World) => rstep_t (af := some ⟨g2, o2, none⟩) (an := an) (az := az) (aa := aa) (cf := cf) (cn := cn) (cs := cs) (ca := ca) hB h0 W)
          have HH := Lib.hid hR
          have HS := Lib.hid hS
          have HB := Lib.hid hB
          have HT := Lib.hid (Fr.make w (.slice (some ⟨g2, o2, none⟩) s.files.length cf) (.slice an s.now.length cn) (.slice az s.sure.length cs) (.slice aa s.acts.length ca) (s.room : Int) (s.steps : Int) (lim s))
          clear hR hS hB
          unfold fsV zrow at HT
          unfold fsV
          unfold fsV at HST
          go_enter Tryz.func28, Tryz.ntmps28
          go_upto_region 1 with fail
          obtain ⟨w2, hw2⟩ : ∃ x, ((w.alloc (.cells #[.slice (some ⟨g2, o2, none⟩) s.files.length cf, .slice an s.now.length cn, .slice az s.sure.length cs, .slice aa s.acts.length ca, .int .i64 (s.room : Int), .int .i64 (s.steps : Int), .int .i64 (lim s)] 33)).alloc (.cells #[.slice none 0 0, .slice none 0 0, .slice none 0 0, .slice none 0 0, .int .i64 0, .int .i64 0, .int .i64 0] 33)) = x := ⟨_, rfl⟩
          rw [hw2] at HT ⊢
          clear hw2
          have d0 := HC0.out _ HT.out.below
          obtain ⟨q0, q1, q2, q3, q4, q5, q6⟩ := HT.out.cells
          have fq := HT.out.free
          have HF1 := Lib.hid (HF.out w2 HT.out.below)
          clear HF
          go_wp2_with fail
          refine HF1.out.mono ?_
          rintro e w3 ⟨rfl, rfl⟩
          clear HF1
          go_wp2_with fail
          refine (HST.out w3).mono ?_
          rintro e w0 ⟨rfl, b0⟩
          have F3 := Lib.hid (HT.out.call b0)
          clear d0
          clear b0 q0 q1 q2 q3 q4 q5 q6 fq
          obtain ⟨q0, q1, q2, q3, q4, q5, q6⟩ := F3.out.cells
          have fq := F3.out.free
          go_upto_region 9 with fail
          obtain ⟨w6, hW⟩ : ∃ x, ((((((w0.setCell ⟨w.heap.size, 0, none⟩ (.slice (some ⟨g2, o2, none⟩) s.files.length cf)).setCell ⟨w.heap.size, 1, none⟩ (.slice an s.now.length cn)).setCell ⟨w.heap.size, 2, none⟩ (.slice az s.sure.length cs)).setCell ⟨w.heap.size, 3, none⟩ (.slice aa s.acts.length ca)).setCell ⟨w.heap.size, 4, none⟩ (.int .i64 (s.room : Int))).setCell ⟨w.heap.size, 5, none⟩ (.int .i64 ((tick s).steps : Int))).setCell ⟨w.heap.size, 6, none⟩ (.int .i64 (lim (tick s))) = x := ⟨_, rfl⟩
          rw [hW]
          have ht := F3.out.put hW
          have F4 := Lib.hid ht.1
          have P4 := Lib.hid ht.2
          clear hW ht q0 q1 q2 q3 q4 q5 q6 fq
          have FD := Lib.hid (F4.out.drew 1)
          have hwd : w6.drewN 1 = w6.drew := rfl
          rw [hwd] at FD
          clear hwd
          have HR4 := Lib.hid (HH.out.kept (S' := S) (w' := w6.drew) (fun k hk => ⟨hk, FD.out.below.block k (HS.out k hk)⟩))
          have HFL := Lib.hid (rput_any S (some ⟨g2, o2, none⟩) an az aa cf cn cs ca (s.room : Int) ((tick s).steps : Int) (lim (tick s)) s i ⟨d.take N, N⟩ w6.drew HR4.out (fun k hk => Nat.lt_of_lt_of_le (HS.out k hk) FD.out.below.size) hif (by have h1 := HB.out.fl; have h2 := HB.out.st; omega))
          unfold fsV at HFL
          dsimp only at HFL
          have d0 := HC0.out _ FD.out.below
          have d1 := HC1.out _ FD.out.below
          have hsl := str_to d N hN
          obtain ⟨q0, q1, q2, q3, q4, q5, q6⟩ := FD.out.cells
          have fq := FD.out.free
          go_upto_region 9 with fail
          go_still_tail 12, (by kernel_rfl)
          change wpList _ _ _ _ _ w6.drew
          generalize w6.drew = w4 at *
          clear d0 d1 q0 q1 q2 q3 q4 q5 q6 fq
          go_wp2_with fail
          refine HFL.out.mono ?_
          rintro e w5 ⟨vf, rfl, R5, b5⟩
          obtain ⟨z5, k5, rfl⟩ := CellsC.shape R5.files
          obtain ⟨m5, hm5⟩ : ∃ q, (s.files.set i ⟨d.take N, N⟩).length = q := ⟨_, rfl⟩
          dsimp only at R5 ⊢
          rw [hm5] at R5 ⊢
          clear hm5
          have HR5 := Lib.hid R5
          have F5 := Lib.hid (FD.out.call b5)
          have ZB5 := Lib.hid b5.size
          have Z5 := Lib.hid FD.out.below.size
          clear b5 R5 HFL
          obtain ⟨r0, r1, r2, r3, r4, r5, r6⟩ := F5.out.rcells
          have fr := F5.out.rfree
          go_wp2_with fail
          obtain ⟨W, hW⟩ : ∃ x, ((((((w5.setCell ⟨w.heap.size + 1, 0, none⟩ (.slice z5 m5 k5)).setCell ⟨w.heap.size + 1, 1, none⟩ (.slice an s.now.length cn)).setCell ⟨w.heap.size + 1, 2, none⟩ (.slice az s.sure.length cs)).setCell ⟨w.heap.size + 1, 3, none⟩ (.slice aa s.acts.length ca)).setCell ⟨w.heap.size + 1, 4, none⟩ (.int .i64 (s.room : Int))).setCell ⟨w.heap.size + 1, 5, none⟩ (.int .i64 ((tick s).steps : Int))).setCell ⟨w.heap.size + 1, 6, none⟩ (.int .i64 (lim (tick s))) = x := ⟨_, rfl⟩
          rw [hW]
          obtain ⟨hX, hP, hBe⟩ := F5.out.fin hW
          have PW := Lib.hid hP
          have BW := Lib.hid hBe
          clear hW hP hBe  r0 r1 r2 r3 r4 r5 r6 fr
          obtain ⟨q0, q1, q2, q3, q4, q5, q6⟩ := hX.cells
          clear hX
          refine bodyPost_ret (v := .tuple #[.agg #[.slice z5 m5 k5, .slice an s.now.length cn, .slice az s.sure.length cs, .slice aa s.acts.length ca, .int .i64 (s.room : Int), .int .i64 ((tick s).steps : Int), .int .i64 (lim (tick s))], .int .i64 0]) (by simp [results, Tryz.results28, go_sem, q0, q1, q2, q3, q4, q5, q6]) rfl ⟨_, rfl, ⟨⟨_, _, _, _, rfl, ?_⟩⟩, BW.out⟩
          have hz := PW.out.size
          have hz4 := Z5.out
          have hlt := FD.out.lt
          have hz5 := ZB5.out
          have hK : ∀ k, (S k ∨ (w4.heap.size ≤ k ∧ k < w5.heap.size)) → (S k ∨ (w.heap.size ≤ k ∧ k < W.heap.size)) ∧ W.heap[k]? = w5.heap[k]? := fun k hk => by
            rcases hk with hk | hk
            · have h1 := HS.out k hk
              exact ⟨Or.inl hk, PW.out.far k (by omega)⟩
            · exact ⟨Or.inr ⟨by omega, by omega⟩, PW.out.far k (by omega)⟩
          have h := HR5.out.kept hK
          exact ⟨h.files, h.now, h.sure, h.acts⟩
end Go.Proofs.YtjefcalndfcmdaaGreatDoor
