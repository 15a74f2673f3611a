/- The reference's Rename. -/
import Derived.Test.YtjefcalndfcmdaaGreatDoorVgS
import Derived.Test.YtjefcalndfcmdaaGreatDoorPathRef
namespace Go.Proofs.YtjefcalndfcmdaaGreatDoor
open Go.RowKit Go.Maps
attribute [local go_sem ↓] Go.wp_at_zero Go.wp_at_succ
set_option maxRecDepth 100000 in
set_option maxHeartbeats 4000000 in
theorem rRename_any (S : Nat → Prop) (v : Value) (s : Fs) (x : Nm) (y : Nm) (w : World) (h : FsV S w v s) (hS : ∀ k, S k → k < w.heap.size) (hB : Bd s) (hy : y.length ≤ 4194304) :
    Calls Tryz.prog 30 #[v, .string ⟨x.toArray⟩, .string ⟨y.toArray⟩] w (RP S w (renameS s x y).1 (renameS s x y).2) := by
  obtain ⟨af, an, az, aa, cf, cn, cs, ca, rfl, hR⟩ := h.shape
  clear h
  have HF := Lib.hid (fun (W : World) (hb : Below w.heap.size w W) => rfind_any S (.slice an s.now.length cn) s.now x W (hR.now.kept (fun k hk => ⟨hk, hb.block k (hS k hk)⟩)) (by have h1 := hB.ok.nowLen; have h2 := hB.st; omega))
  have HCK := Lib.hid (fun (W : World) => rcheck_any y W hy)
  unfold renameS
  cases hf : fnd s.now x with
  | none =>
    have hI : fndI s.now x = -1 := by unfold fndI; rw [hf]
    rw [hI] at HF
    clear hI hf
    dsimp only
    have HH := Lib.hid hR
    have HS := Lib.hid hS
    have HB := Lib.hid hB
    have HT := Lib.hid (Fr.make w (.slice af s.files.length cf) (.slice an s.now.length cn) (.slice az s.sure.length cs) (.slice aa s.acts.length ca) (s.room : Int) (s.steps : Int) (lim s))
    clear hR hS hB
    unfold fsV zrow at HT
    unfold fsV
    go_enter Tryz.func30, Tryz.ntmps30
    go_upto_region 1 with fail
    obtain ⟨w2, hw2⟩ : ∃ x, ((w.alloc (.cells #[.slice af s.files.length cf, .slice an s.now.length cn, .slice az s.sure.length cs, .slice aa s.acts.length ca, .int .i64 (s.room : Int), .int .i64 (s.steps : Int), .int .i64 (lim s)] 33)).alloc (.cells #[.slice none 0 0, .slice none 0 0, .slice none 0 0, .slice none 0 0, .int .i64 0, .int .i64 0, .int .i64 0] 33)) = x := ⟨_, rfl⟩
    rw [hw2] at HT ⊢
    clear hw2
    obtain ⟨q0, q1, q2, q3, q4, q5, q6⟩ := HT.out.cells
    have fq := HT.out.free
    have HF1 := Lib.hid (HF.out w2 HT.out.below)
    clear HF
    go_wp2_with fail
    refine HF1.out.mono ?_
    rintro e w3 ⟨rfl, rfl⟩
    clear HF1
    obtain ⟨r0, r1, r2, r3, r4, r5, r6⟩ := HT.out.rcells
    have fr := HT.out.rfree
    go_wp2_with fail
    obtain ⟨W, hW⟩ : ∃ x, ((((((w3.setCell ⟨w.heap.size + 1, 0, none⟩ (.slice af s.files.length cf)).setCell ⟨w.heap.size + 1, 1, none⟩ (.slice an s.now.length cn)).setCell ⟨w.heap.size + 1, 2, none⟩ (.slice az s.sure.length cs)).setCell ⟨w.heap.size + 1, 3, none⟩ (.slice aa s.acts.length ca)).setCell ⟨w.heap.size + 1, 4, none⟩ (.int .i64 (s.room : Int))).setCell ⟨w.heap.size + 1, 5, none⟩ (.int .i64 (s.steps : Int))).setCell ⟨w.heap.size + 1, 6, none⟩ (.int .i64 (lim s)) = x := ⟨_, rfl⟩
    rw [hW]
    obtain ⟨hX, hP, hBe⟩ := HT.out.fin hW
    have PW := Lib.hid hP
    have BW := Lib.hid hBe
    clear hW hP hBe q0 q1 q2 q3 q4 q5 q6 fq r0 r1 r2 r3 r4 r5 r6 fr
    obtain ⟨q0, q1, q2, q3, q4, q5, q6⟩ := hX.cells
    clear hX
    refine bodyPost_ret (v := .tuple #[.agg #[.slice af s.files.length cf, .slice an s.now.length cn, .slice az s.sure.length cs, .slice aa s.acts.length ca, .int .i64 (s.room : Int), .int .i64 (s.steps : Int), .int .i64 (lim s)], .int .i64 4]) (by simp [results, Tryz.results30, go_sem, q0, q1, q2, q3, q4, q5, q6]) rfl ⟨_, rfl, ⟨⟨_, _, _, _, rfl, ?_⟩⟩, BW.out⟩
    exact HH.out.kept (fun k hk => ⟨Or.inl hk, BW.out.block k (HS.out k hk)⟩)
  | some i =>
    have hI : fndI s.now x = (i : Int) := by unfold fndI; rw [hf]
    rw [hI] at HF
    have hil : i < s.files.length := hB.ok.nowOk.lt _ (fnd_mem hf)
    have hib : i ≤ 4194304 := by have h1 := hB.fl; have h2 := hB.st; omega
    clear hI hf hil
    dsimp only
    obtain ⟨c, hc⟩ : ∃ q, checkN y = q := ⟨_, rfl⟩
    rw [hc] at HCK
    rw [hc]
    clear hc
    by_cases hc : c ≠ 0
    · rw [if_pos hc]
      have c1 : (c == 0) = false := beq_eq_false_iff_ne.2 hc
      have c2 : (c != 0) = true := by simp [bne, c1]
      clear hc
      have HH := Lib.hid hR
      have HS := Lib.hid hS
      have HB := Lib.hid hB
      have HT := Lib.hid (Fr.make w (.slice af s.files.length cf) (.slice an s.now.length cn) (.slice az s.sure.length cs) (.slice aa s.acts.length ca) (s.room : Int) (s.steps : Int) (lim s))
      clear hR hS hB
      unfold fsV zrow at HT
      unfold fsV
      go_enter Tryz.func30, Tryz.ntmps30
      go_upto_region 1 with fail
      obtain ⟨w2, hw2⟩ : ∃ x, ((w.alloc (.cells #[.slice af s.files.length cf, .slice an s.now.length cn, .slice az s.sure.length cs, .slice aa s.acts.length ca, .int .i64 (s.room : Int), .int .i64 (s.steps : Int), .int .i64 (lim s)] 33)).alloc (.cells #[.slice none 0 0, .slice none 0 0, .slice none 0 0, .slice none 0 0, .int .i64 0, .int .i64 0, .int .i64 0] 33)) = x := ⟨_, rfl⟩
      rw [hw2] at HT ⊢
      clear hw2
      obtain ⟨q0, q1, q2, q3, q4, q5, q6⟩ := HT.out.cells
      have fq := HT.out.free
      have HF1 := Lib.hid (HF.out w2 HT.out.below)
      clear HF
      go_wp2_with fail
      refine HF1.out.mono ?_
      rintro e w3 ⟨rfl, rfl⟩
      clear HF1
      clear q0 q1 q2 q3 q4 q5 q6 fq
      have HC1 := Lib.hid (HCK.out w3)
      clear HCK
      go_wp2_with fail
      refine HC1.out.mono ?_
      rintro e w8 ⟨rfl, b8⟩
      have F8 := Lib.hid (HT.out.call b8)
      clear b8 HC1 HT
      obtain ⟨q0, q1, q2, q3, q4, q5, q6⟩ := F8.out.cells
      have fq := F8.out.free
      obtain ⟨r0, r1, r2, r3, r4, r5, r6⟩ := F8.out.rcells
      have fr := F8.out.rfree
      go_wp2_with fail
      obtain ⟨W, hW⟩ : ∃ x, ((((((w8.setCell ⟨w.heap.size + 1, 0, none⟩ (.slice af s.files.length cf)).setCell ⟨w.heap.size + 1, 1, none⟩ (.slice an s.now.length cn)).setCell ⟨w.heap.size + 1, 2, none⟩ (.slice az s.sure.length cs)).setCell ⟨w.heap.size + 1, 3, none⟩ (.slice aa s.acts.length ca)).setCell ⟨w.heap.size + 1, 4, none⟩ (.int .i64 (s.room : Int))).setCell ⟨w.heap.size + 1, 5, none⟩ (.int .i64 (s.steps : Int))).setCell ⟨w.heap.size + 1, 6, none⟩ (.int .i64 (lim s)) = x := ⟨_, rfl⟩
      rw [hW]
      obtain ⟨hX, hP, hBe⟩ := F8.out.fin hW
      have PW := Lib.hid hP
      have BW := Lib.hid hBe
      clear hW hP hBe q0 q1 q2 q3 q4 q5 q6 fq r0 r1 r2 r3 r4 r5 r6 fr
      obtain ⟨q0, q1, q2, q3, q4, q5, q6⟩ := hX.cells
      clear hX
      refine bodyPost_ret (v := .tuple #[.agg #[.slice af s.files.length cf, .slice an s.now.length cn, .slice az s.sure.length cs, .slice aa s.acts.length ca, .int .i64 (s.room : Int), .int .i64 (s.steps : Int), .int .i64 (lim s)], .int .i64 c]) (by simp [results, Tryz.results30, go_sem, q0, q1, q2, q3, q4, q5, q6]) rfl ⟨_, rfl, ⟨⟨_, _, _, _, rfl, ?_⟩⟩, BW.out⟩
      exact HH.out.kept (fun k hk => ⟨Or.inl hk, BW.out.block k (HS.out k hk)⟩)
    · rw [if_neg hc]
      have hc0 : c = 0 := by omega
      subst hc0
      clear hc
      by_cases hxy : x = y
      · rw [if_pos hxy]
        have c1 : (x == y) = true := beq_iff_eq.2 hxy
        clear hxy
        have HH := Lib.hid hR
        have HS := Lib.hid hS
        have HB := Lib.hid hB
        have HT := Lib.hid (Fr.make w (.slice af s.files.length cf) (.slice an s.now.length cn) (.slice az s.sure.length cs) (.slice aa s.acts.length ca) (s.room : Int) (s.steps : Int) (lim s))
        clear hR hS hB
        unfold fsV zrow at HT
        unfold fsV
        go_enter Tryz.func30, Tryz.ntmps30
        go_upto_region 1 with fail
        obtain ⟨w2, hw2⟩ : ∃ x, ((w.alloc (.cells #[.slice af s.files.length cf, .slice an s.now.length cn, .slice az s.sure.length cs, .slice aa s.acts.length ca, .int .i64 (s.room : Int), .int .i64 (s.steps : Int), .int .i64 (lim s)] 33)).alloc (.cells #[.slice none 0 0, .slice none 0 0, .slice none 0 0, .slice none 0 0, .int .i64 0, .int .i64 0, .int .i64 0] 33)) = x := ⟨_, rfl⟩
        rw [hw2] at HT ⊢
        clear hw2
        obtain ⟨q0, q1, q2, q3, q4, q5, q6⟩ := HT.out.cells
        have fq := HT.out.free
        have HF1 := Lib.hid (HF.out w2 HT.out.below)
        clear HF
        go_wp2_with fail
        refine HF1.out.mono ?_
        rintro e w3 ⟨rfl, rfl⟩
        clear HF1
        clear q0 q1 q2 q3 q4 q5 q6 fq
        have HC1 := Lib.hid (HCK.out w3)
        clear HCK
        go_wp2_with fail
        refine HC1.out.mono ?_
        rintro e w8 ⟨rfl, b8⟩
        have F8 := Lib.hid (HT.out.call b8)
        clear b8 HC1 HT
        obtain ⟨q0, q1, q2, q3, q4, q5, q6⟩ := F8.out.cells
        have fq := F8.out.free
        obtain ⟨r0, r1, r2, r3, r4, r5, r6⟩ := F8.out.rcells
        have fr := F8.out.rfree
        go_wp2_with fail
        obtain ⟨W, hW⟩ : ∃ x, ((((((w8.setCell ⟨w.heap.size + 1, 0, none⟩ (.slice af s.files.length cf)).setCell ⟨w.heap.size + 1, 1, none⟩ (.slice an s.now.length cn)).setCell ⟨w.heap.size + 1, 2, none⟩ (.slice az s.sure.length cs)).setCell ⟨w.heap.size + 1, 3, none⟩ (.slice aa s.acts.length ca)).setCell ⟨w.heap.size + 1, 4, none⟩ (.int .i64 (s.room : Int))).setCell ⟨w.heap.size + 1, 5, none⟩ (.int .i64 (s.steps : Int))).setCell ⟨w.heap.size + 1, 6, none⟩ (.int .i64 (lim s)) = x := ⟨_, rfl⟩
        rw [hW]
        obtain ⟨hX, hP, hBe⟩ := F8.out.fin hW
        have PW := Lib.hid hP
        have BW := Lib.hid hBe
        clear hW hP hBe q0 q1 q2 q3 q4 q5 q6 fq r0 r1 r2 r3 r4 r5 r6 fr
        obtain ⟨q0, q1, q2, q3, q4, q5, q6⟩ := hX.cells
        clear hX
        refine bodyPost_ret (v := .tuple #[.agg #[.slice af s.files.length cf, .slice an s.now.length cn, .slice az s.sure.length cs, .slice aa s.acts.length ca, .int .i64 (s.room : Int), .int .i64 (s.steps : Int), .int .i64 (lim s)], .int .i64 5]) (by simp [results, Tryz.results30, go_sem, q0, q1, q2, q3, q4, q5, q6]) rfl ⟨_, rfl, ⟨⟨_, _, _, _, rfl, ?_⟩⟩, BW.out⟩
        exact HH.out.kept (fun k hk => ⟨Or.inl hk, BW.out.block k (HS.out k hk)⟩)
      · rw [if_neg hxy]
        have c1 : (x == y) = false := beq_eq_false_iff_ne.2 hxy
        clear hxy
        by_cases h0 : s.more = 0
        · rw [if_pos h0]
          have HST := Lib.hid (fun (W : World) => rstep_c (af := af) (an := an) (az := az) (aa := aa) (cf := cf) (cn := cn) (cs := cs) (ca := ca) h0 W)
          have HH := Lib.hid hR
          have HS := Lib.hid hS
          have HB := Lib.hid hB
          have HT := Lib.hid (Fr.make w (.slice af s.files.length cf) (.slice an s.now.length cn) (.slice az s.sure.length cs) (.slice aa s.acts.length ca) (s.room : Int) (s.steps : Int) (lim s))
          clear hR hS hB
          unfold fsV zrow at HT
          unfold fsV
          unfold fsV at HST
          go_enter Tryz.func30, Tryz.ntmps30
          go_upto_region 1 with fail
          obtain ⟨w2, hw2⟩ : ∃ x, ((w.alloc (.cells #[.slice af s.files.length cf, .slice an s.now.length cn, .slice az s.sure.length cs, .slice aa s.acts.length ca, .int .i64 (s.room : Int), .int .i64 (s.steps : Int), .int .i64 (lim s)] 33)).alloc (.cells #[.slice none 0 0, .slice none 0 0, .slice none 0 0, .slice none 0 0, .int .i64 0, .int .i64 0, .int .i64 0] 33)) = x := ⟨_, rfl⟩
          rw [hw2] at HT ⊢
          clear hw2
          obtain ⟨q0, q1, q2, q3, q4, q5, q6⟩ := HT.out.cells
          have fq := HT.out.free
          have HF1 := Lib.hid (HF.out w2 HT.out.below)
          clear HF
          go_wp2_with fail
          refine HF1.out.mono ?_
          rintro e w3 ⟨rfl, rfl⟩
          clear HF1
          clear q0 q1 q2 q3 q4 q5 q6 fq
          have HC1 := Lib.hid (HCK.out w3)
          clear HCK
          go_wp2_with fail
          refine HC1.out.mono ?_
          rintro e w8 ⟨rfl, b8⟩
          have F8 := Lib.hid (HT.out.call b8)
          clear b8 HC1 HT
          obtain ⟨q0, q1, q2, q3, q4, q5, q6⟩ := F8.out.cells
          have fq := F8.out.free
          go_wp2_with fail
          refine (HST.out w8).mono ?_
          rintro e w4 ⟨rfl, b0⟩
          have F3 := Lib.hid (F8.out.call b0)
          clear b0 q0 q1 q2 q3 q4 q5 q6 fq
          obtain ⟨q0, q1, q2, q3, q4, q5, q6⟩ := F3.out.cells
          have fq := F3.out.free
          go_upto_region 10 with fail
          obtain ⟨w5, hW⟩ : ∃ x, ((((((w4.setCell ⟨w.heap.size, 0, none⟩ (.slice af s.files.length cf)).setCell ⟨w.heap.size, 1, none⟩ (.slice an s.now.length cn)).setCell ⟨w.heap.size, 2, none⟩ (.slice az s.sure.length cs)).setCell ⟨w.heap.size, 3, none⟩ (.slice aa s.acts.length ca)).setCell ⟨w.heap.size, 4, none⟩ (.int .i64 (s.room : Int))).setCell ⟨w.heap.size, 5, none⟩ (.int .i64 (s.steps : Int))).setCell ⟨w.heap.size, 6, none⟩ (.int .i64 (lim s)) = x := ⟨_, rfl⟩
          rw [hW]
          have ht := F3.out.put hW
          have F4 := Lib.hid ht.1
          have P4 := Lib.hid ht.2
          clear hW ht q0 q1 q2 q3 q4 q5 q6 fq
          obtain ⟨q0, q1, q2, q3, q4, q5, q6⟩ := F4.out.cells
          obtain ⟨r0, r1, r2, r3, r4, r5, r6⟩ := F4.out.rcells
          have fr := F4.out.rfree
          go_wp2_with fail
          obtain ⟨W, hW⟩ : ∃ x, ((((((w5.setCell ⟨w.heap.size + 1, 0, none⟩ (.slice af s.files.length cf)).setCell ⟨w.heap.size + 1, 1, none⟩ (.slice an s.now.length cn)).setCell ⟨w.heap.size + 1, 2, none⟩ (.slice az s.sure.length cs)).setCell ⟨w.heap.size + 1, 3, none⟩ (.slice aa s.acts.length ca)).setCell ⟨w.heap.size + 1, 4, none⟩ (.int .i64 (s.room : Int))).setCell ⟨w.heap.size + 1, 5, none⟩ (.int .i64 (s.steps : Int))).setCell ⟨w.heap.size + 1, 6, none⟩ (.int .i64 (lim s)) = x := ⟨_, rfl⟩
          rw [hW]
          obtain ⟨hX, hP, hBe⟩ := F4.out.fin hW
          have PW := Lib.hid hP
          have BW := Lib.hid hBe
          clear hW hP hBe q0 q1 q2 q3 q4 q5 q6 r0 r1 r2 r3 r4 r5 r6 fr
          obtain ⟨q0, q1, q2, q3, q4, q5, q6⟩ := hX.cells
          clear hX
          refine bodyPost_ret (v := .tuple #[.agg #[.slice af s.files.length cf, .slice an s.now.length cn, .slice az s.sure.length cs, .slice aa s.acts.length ca, .int .i64 (s.room : Int), .int .i64 (s.steps : Int), .int .i64 (lim s)], .int .i64 190]) (by simp [results, Tryz.results30, go_sem, q0, q1, q2, q3, q4, q5, q6]) rfl ⟨_, rfl, ⟨⟨_, _, _, _, rfl, ?_⟩⟩, BW.out⟩
          exact HH.out.kept (fun k hk => ⟨Or.inl hk, BW.out.block k (HS.out k hk)⟩)
        · rw [if_neg h0]
          have HST := Lib.hid (fun (W : World) => rstep_t (af := af) (an := an) (az := az) (aa := aa) (cf := cf) (cn := cn) (cs := cs) (ca := ca) hB h0 W)
          have HH := Lib.hid hR
          have HS := Lib.hid hS
          have HB := Lib.hid hB
          have HT := Lib.hid (Fr.make w (.slice af s.files.length cf) (.slice an s.now.length cn) (.slice az s.sure.length cs) (.slice aa s.acts.length ca) (s.room : Int) (s.steps : Int) (lim s))
          clear hR hS hB
          unfold fsV zrow at HT
          unfold fsV
          unfold fsV at HST
          go_enter Tryz.func30, Tryz.ntmps30
          go_upto_region 1 with fail
          obtain ⟨w2, hw2⟩ : ∃ x, ((w.alloc (.cells #[.slice af s.files.length cf, .slice an s.now.length cn, .slice az s.sure.length cs, .slice aa s.acts.length ca, .int .i64 (s.room : Int), .int .i64 (s.steps : Int), .int .i64 (lim s)] 33)).alloc (.cells #[.slice none 0 0, .slice none 0 0, .slice none 0 0, .slice none 0 0, .int .i64 0, .int .i64 0, .int .i64 0] 33)) = x := ⟨_, rfl⟩
          rw [hw2] at HT ⊢
          clear hw2
          obtain ⟨q0, q1, q2, q3, q4, q5, q6⟩ := HT.out.cells
          have fq := HT.out.free
          have HF1 := Lib.hid (HF.out w2 HT.out.below)
          clear HF
          go_wp2_with fail
          refine HF1.out.mono ?_
          rintro e w3 ⟨rfl, rfl⟩
          clear HF1
          clear q0 q1 q2 q3 q4 q5 q6 fq
          have HC1 := Lib.hid (HCK.out w3)
          clear HCK
          go_wp2_with fail
          refine HC1.out.mono ?_
          rintro e w8 ⟨rfl, b8⟩
          have F8 := Lib.hid (HT.out.call b8)
          clear b8 HC1 HT
          obtain ⟨q0, q1, q2, q3, q4, q5, q6⟩ := F8.out.cells
          have fq := F8.out.free
          go_wp2_with fail
          refine (HST.out w8).mono ?_
          rintro e w0 ⟨rfl, b0⟩
          have F3 := Lib.hid (F8.out.call b0)
          clear b0 q0 q1 q2 q3 q4 q5 q6 fq
          obtain ⟨q0, q1, q2, q3, q4, q5, q6⟩ := F3.out.cells
          have fq := F3.out.free
          go_upto_region 12 with fail
          obtain ⟨w4, hW⟩ : ∃ x, ((((((w0.setCell ⟨w.heap.size, 0, none⟩ (.slice af s.files.length cf)).setCell ⟨w.heap.size, 1, none⟩ (.slice an s.now.length cn)).setCell ⟨w.heap.size, 2, none⟩ (.slice az s.sure.length cs)).setCell ⟨w.heap.size, 3, none⟩ (.slice aa s.acts.length ca)).setCell ⟨w.heap.size, 4, none⟩ (.int .i64 (s.room : Int))).setCell ⟨w.heap.size, 5, none⟩ (.int .i64 ((tick s).steps : Int))).setCell ⟨w.heap.size, 6, none⟩ (.int .i64 (lim (tick s))) = x := ⟨_, rfl⟩
          rw [hW]
          have ht := F3.out.put hW
          have F4 := Lib.hid ht.1
          have P4 := Lib.hid ht.2
          clear hW ht q0 q1 q2 q3 q4 q5 q6 fq
          have HR4 := Lib.hid (HH.out.kept (S' := S) (w' := w4) (fun k hk => ⟨hk, F4.out.below.block k (HS.out k hk)⟩))
          have HFL := Lib.hid (rchange_any S af an az aa cf cn cs ca (s.room : Int) ((tick s).steps : Int) (lim (tick s)) s ⟨x, y, some i⟩ w4 HR4.out (fun k hk => Nat.lt_of_lt_of_le (HS.out k hk) F4.out.below.size) HB.out.ok.nowOk.rise (fun p hp => (HB.out.ok.nowOk.nm p hp).1) (by have h1 := HB.out.ok.nowLen; have h2 := HB.out.st; omega) (by have h1 := HB.out.ok.cnt; have h2 := HB.out.st; omega))
          unfold fsV at HFL
          obtain ⟨q0, q1, q2, q3, q4, q5, q6⟩ := F4.out.cells
          have fq := F4.out.free
          go_wp2_with fail
          refine HFL.out.mono ?_
          rintro e w5 ⟨vn, va, rfl, R5, b5⟩
          obtain ⟨z5, k5, rfl⟩ := CellsC.shape R5.now
          obtain ⟨y5, j5, rfl⟩ := CellsC.shape R5.acts
          obtain ⟨m5, hm5⟩ : ∃ q, (chg s ⟨x, y, some i⟩).now.length = q := ⟨_, rfl⟩
          obtain ⟨n5, hn5⟩ : ∃ q, (chg s ⟨x, y, some i⟩).acts.length = q := ⟨_, rfl⟩
          rw [hm5, hn5] at R5 ⊢
          clear hm5 hn5
          have HR5 := Lib.hid R5
          have F5 := Lib.hid (F4.out.call b5)
          have ZB5 := Lib.hid b5.size
          clear b5 R5 HFL q0 q1 q2 q3 q4 q5 q6 fq
          have Z5 := Lib.hid F4.out.below.size
          obtain ⟨r0, r1, r2, r3, r4, r5, r6⟩ := F5.out.rcells
          have fr := F5.out.rfree
          go_wp2_with fail
          obtain ⟨W, hW⟩ : ∃ x, ((((((w5.setCell ⟨w.heap.size + 1, 0, none⟩ (.slice af s.files.length cf)).setCell ⟨w.heap.size + 1, 1, none⟩ (.slice z5 m5 k5)).setCell ⟨w.heap.size + 1, 2, none⟩ (.slice az s.sure.length cs)).setCell ⟨w.heap.size + 1, 3, none⟩ (.slice y5 n5 j5)).setCell ⟨w.heap.size + 1, 4, none⟩ (.int .i64 (s.room : Int))).setCell ⟨w.heap.size + 1, 5, none⟩ (.int .i64 ((tick s).steps : Int))).setCell ⟨w.heap.size + 1, 6, none⟩ (.int .i64 (lim (tick s))) = x := ⟨_, rfl⟩
          rw [hW]
          obtain ⟨hX, hP, hBe⟩ := F5.out.fin hW
          have PW := Lib.hid hP
          have BW := Lib.hid hBe
          clear hW hP hBe  r0 r1 r2 r3 r4 r5 r6 fr
          obtain ⟨q0, q1, q2, q3, q4, q5, q6⟩ := hX.cells
          clear hX
          refine bodyPost_ret (v := .tuple #[.agg #[.slice af s.files.length cf, .slice z5 m5 k5, .slice az s.sure.length cs, .slice y5 n5 j5, .int .i64 (s.room : Int), .int .i64 ((tick s).steps : Int), .int .i64 (lim (tick s))], .int .i64 0]) (by simp [results, Tryz.results30, go_sem, q0, q1, q2, q3, q4, q5, q6]) rfl ⟨_, rfl, ⟨⟨_, _, _, _, rfl, ?_⟩⟩, BW.out⟩
          have hz := PW.out.size
          have hz4 := Z5.out
          have hlt := F4.out.lt
          have hz5 := ZB5.out
          have hK : ∀ k, (S k ∨ (w4.heap.size ≤ k ∧ k < w5.heap.size)) → (S k ∨ (w.heap.size ≤ k ∧ k < W.heap.size)) ∧ W.heap[k]? = w5.heap[k]? := fun k hk => by
            rcases hk with hk | hk
            · have h1 := HS.out k hk
              exact ⟨Or.inl hk, PW.out.far k (by omega)⟩
            · exact ⟨Or.inr ⟨by omega, by omega⟩, PW.out.far k (by omega)⟩
          have h := HR5.out.kept hK
          exact ⟨h.files, h.now, h.sure, h.acts⟩
end Go.Proofs.YtjefcalndfcmdaaGreatDoor
