/- The reference's Create. -/
import Derived.Test.YtjefcalndfcmdaaGreatDoorVgT
namespace Go.Proofs.YtjefcalndfcmdaaGreatDoor
open Go.RowKit Go.Maps
attribute [local go_sem ↓] Go.wp_at_zero Go.wp_at_succ
set_option maxRecDepth 100000 in
set_option maxHeartbeats 4000000 in
theorem rCreate_any (S : Nat → Prop) (v : Value) (s : Fs) (x : Nm) (w : World) (h : FsV S w v s) (hS : ∀ k, S k → k < w.heap.size) (hB : Bd s) (hx : x.length ≤ 4194304) :
    Calls Tryz.prog 25 #[v, .string ⟨x.toArray⟩] w (RP S w (createS s x).1 (createS s x).2) := by
  obtain ⟨af, an, az, aa, cf, cn, cs, ca, rfl, hR⟩ := h.shape
  clear h
  have HF := Lib.hid (fun (W : World) (hb : Below w.heap.size w W) => rfind_any S (.slice an s.now.length cn) s.now x W (hR.now.kept (fun k hk => ⟨hk, hb.block k (hS k hk)⟩)) (by have h1 := hB.ok.nowLen; have h2 := hB.st; omega))
  have HCK := Lib.hid (fun (W : World) => rcheck_any x W hx)
  unfold createS
  obtain ⟨c, hc⟩ : ∃ q, checkN x = q := ⟨_, rfl⟩
  rw [hc] at HCK
  rw [hc]
  clear hc
  by_cases hc : c ≠ 0
  · rw [if_pos hc]
    have c1 : (c == 0) = false := beq_eq_false_iff_ne.2 hc
    have c2 : (c != 0) = true := by simp [bne, c1]
    clear hc
    have HH := Lib.hid hR
    have HS := Lib.hid hS
    have HB := Lib.hid hB
    have HT := Lib.hid (Fr.make w (.slice af s.files.length cf) (.slice an s.now.length cn) (.slice az s.sure.length cs) (.slice aa s.acts.length ca) (s.room : Int) (s.steps : Int) (lim s))
    clear hR hS hB
    unfold fsV zrow at HT
    unfold fsV
    go_enter Tryz.func25, Tryz.ntmps25
    go_upto_region 1 with fail
    obtain ⟨w2, hw2⟩ : ∃ x, ((w.alloc (.cells #[.slice af s.files.length cf, .slice an s.now.length cn, .slice az s.sure.length cs, .slice aa s.acts.length ca, .int .i64 (s.room : Int), .int .i64 (s.steps : Int), .int .i64 (lim s)] 33)).alloc (.cells #[.slice none 0 0, .slice none 0 0, .slice none 0 0, .slice none 0 0, .int .i64 0, .int .i64 0, .int .i64 0] 33)) = x := ⟨_, rfl⟩
    rw [hw2] at HT ⊢
    clear hw2
    have HC1 := Lib.hid (HCK.out w2)
    clear HCK
    go_wp2_with fail
    refine HC1.out.mono ?_
    rintro e w8 ⟨rfl, b8⟩
    have F8 := Lib.hid (HT.out.call b8)
    clear b8 HC1 HT
    obtain ⟨q0, q1, q2, q3, q4, q5, q6⟩ := F8.out.cells
    have fq := F8.out.free
    obtain ⟨r0, r1, r2, r3, r4, r5, r6⟩ := F8.out.rcells
    have fr := F8.out.rfree
    go_wp2_with fail
    obtain ⟨W, hW⟩ : ∃ x, ((((((w8.setCell ⟨w.heap.size + 1, 0, none⟩ (.slice af s.files.length cf)).setCell ⟨w.heap.size + 1, 1, none⟩ (.slice an s.now.length cn)).setCell ⟨w.heap.size + 1, 2, none⟩ (.slice az s.sure.length cs)).setCell ⟨w.heap.size + 1, 3, none⟩ (.slice aa s.acts.length ca)).setCell ⟨w.heap.size + 1, 4, none⟩ (.int .i64 (s.room : Int))).setCell ⟨w.heap.size + 1, 5, none⟩ (.int .i64 (s.steps : Int))).setCell ⟨w.heap.size + 1, 6, none⟩ (.int .i64 (lim s)) = x := ⟨_, rfl⟩
    rw [hW]
    obtain ⟨hX, hP, hBe⟩ := F8.out.fin hW
    have PW := Lib.hid hP
    have BW := Lib.hid hBe
    clear hW hP hBe q0 q1 q2 q3 q4 q5 q6 fq r0 r1 r2 r3 r4 r5 r6 fr
    obtain ⟨q0, q1, q2, q3, q4, q5, q6⟩ := hX.cells
    clear hX
    refine bodyPost_ret (v := .tuple #[.agg #[.slice af s.files.length cf, .slice an s.now.length cn, .slice az s.sure.length cs, .slice aa s.acts.length ca, .int .i64 (s.room : Int), .int .i64 (s.steps : Int), .int .i64 (lim s)], .int .i64 c]) (by simp [results, Tryz.results25, go_sem, q0, q1, q2, q3, q4, q5, q6]) rfl ⟨_, rfl, ⟨⟨_, _, _, _, rfl, ?_⟩⟩, BW.out⟩
    exact HH.out.kept (fun k hk => ⟨Or.inl hk, BW.out.block k (HS.out k hk)⟩)
  · rw [if_neg hc]
    have hc0 : c = 0 := by omega
    subst hc0
    clear hc
    by_cases hf : fnd s.now x ≠ none
    · rw [if_pos hf]
      obtain ⟨j, hj⟩ : ∃ j, fnd s.now x = some j := Option.ne_none_iff_exists'.1 hf
      have hI : fndI s.now x = (j : Int) := by unfold fndI; rw [hj]
      rw [hI] at HF
      clear hI hj hf
      have HH := Lib.hid hR
      have HS := Lib.hid hS
      have HB := Lib.hid hB
      have HT := Lib.hid (Fr.make w (.slice af s.files.length cf) (.slice an s.now.length cn) (.slice az s.sure.length cs) (.slice aa s.acts.length ca) (s.room : Int) (s.steps : Int) (lim s))
      clear hR hS hB
      unfold fsV zrow at HT
      unfold fsV
      go_enter Tryz.func25, Tryz.ntmps25
      go_upto_region 1 with fail
      obtain ⟨w2, hw2⟩ : ∃ x, ((w.alloc (.cells #[.slice af s.files.length cf, .slice an s.now.length cn, .slice az s.sure.length cs, .slice aa s.acts.length ca, .int .i64 (s.room : Int), .int .i64 (s.steps : Int), .int .i64 (lim s)] 33)).alloc (.cells #[.slice none 0 0, .slice none 0 0, .slice none 0 0, .slice none 0 0, .int .i64 0, .int .i64 0, .int .i64 0] 33)) = x := ⟨_, rfl⟩
      rw [hw2] at HT ⊢
      clear hw2
      have HC1 := Lib.hid (HCK.out w2)
      clear HCK
      go_wp2_with fail
      refine HC1.out.mono ?_
      rintro e w8 ⟨rfl, b8⟩
      have F8 := Lib.hid (HT.out.call b8)
      clear b8 HC1 HT
      obtain ⟨q0, q1, q2, q3, q4, q5, q6⟩ := F8.out.cells
      have fq := F8.out.free
      have HF1 := Lib.hid (HF.out w8 F8.out.below)
      clear HF
      go_wp2_with fail
      refine HF1.out.mono ?_
      rintro e w3 ⟨rfl, rfl⟩
      clear HF1
      obtain ⟨r0, r1, r2, r3, r4, r5, r6⟩ := F8.out.rcells
      have fr := F8.out.rfree
      go_wp2_with fail
      obtain ⟨W, hW⟩ : ∃ x, ((((((w3.setCell ⟨w.heap.size + 1, 0, none⟩ (.slice af s.files.length cf)).setCell ⟨w.heap.size + 1, 1, none⟩ (.slice an s.now.length cn)).setCell ⟨w.heap.size + 1, 2, none⟩ (.slice az s.sure.length cs)).setCell ⟨w.heap.size + 1, 3, none⟩ (.slice aa s.acts.length ca)).setCell ⟨w.heap.size + 1, 4, none⟩ (.int .i64 (s.room : Int))).setCell ⟨w.heap.size + 1, 5, none⟩ (.int .i64 (s.steps : Int))).setCell ⟨w.heap.size + 1, 6, none⟩ (.int .i64 (lim s)) = x := ⟨_, rfl⟩
      rw [hW]
      obtain ⟨hX, hP, hBe⟩ := F8.out.fin hW
      have PW := Lib.hid hP
      have BW := Lib.hid hBe
      clear hW hP hBe q0 q1 q2 q3 q4 q5 q6 fq r0 r1 r2 r3 r4 r5 r6 fr
      obtain ⟨q0, q1, q2, q3, q4, q5, q6⟩ := hX.cells
      clear hX
      refine bodyPost_ret (v := .tuple #[.agg #[.slice af s.files.length cf, .slice an s.now.length cn, .slice az s.sure.length cs, .slice aa s.acts.length ca, .int .i64 (s.room : Int), .int .i64 (s.steps : Int), .int .i64 (lim s)], .int .i64 5]) (by simp [results, Tryz.results25, go_sem, q0, q1, q2, q3, q4, q5, q6]) rfl ⟨_, rfl, ⟨⟨_, _, _, _, rfl, ?_⟩⟩, BW.out⟩
      exact HH.out.kept (fun k hk => ⟨Or.inl hk, BW.out.block k (HS.out k hk)⟩)
    · rw [if_neg hf]
      have hI : fndI s.now x = -1 := by unfold fndI; rw [show fnd s.now x = none by simpa using hf]
      rw [hI] at HF
      clear hI hf
      by_cases h0 : s.more = 0
      · rw [if_pos h0]
        have HST := Lib.hid (fun (W : World) => rstep_c (af := af) (an := an) (az := az) (aa := aa) (cf := cf) (cn := cn) (cs := cs) (ca := ca) h0 W)
        have HH := Lib.hid hR
        have HS := Lib.hid hS
        have HB := Lib.hid hB
        have HT := Lib.hid (Fr.make w (.slice af s.files.length cf) (.slice an s.now.length cn) (.slice az s.sure.length cs) (.slice aa s.acts.length ca) (s.room : Int) (s.steps : Int) (lim s))
        clear hR hS hB
        unfold fsV zrow at HT
        unfold fsV
        unfold fsV at HST
        go_enter Tryz.func25, Tryz.ntmps25
        go_upto_region 1 with fail
        obtain ⟨w2, hw2⟩ : ∃ x, ((w.alloc (.cells #[.slice af s.files.length cf, .slice an s.now.length cn, .slice az s.sure.length cs, .slice aa s.acts.length ca, .int .i64 (s.room : Int), .int .i64 (s.steps : Int), .int .i64 (lim s)] 33)).alloc (.cells #[.slice none 0 0, .slice none 0 0, .slice none 0 0, .slice none 0 0, .int .i64 0, .int .i64 0, .int .i64 0] 33)) = x := ⟨_, rfl⟩
        rw [hw2] at HT ⊢
        clear hw2
        have HC1 := Lib.hid (HCK.out w2)
        clear HCK
        go_wp2_with fail
        refine HC1.out.mono ?_
        rintro e w8 ⟨rfl, b8⟩
        have F8 := Lib.hid (HT.out.call b8)
        clear b8 HC1 HT
        obtain ⟨q0, q1, q2, q3, q4, q5, q6⟩ := F8.out.cells
        have fq := F8.out.free
        have HF1 := Lib.hid (HF.out w8 F8.out.below)
        clear HF
        go_wp2_with fail
        refine HF1.out.mono ?_
        rintro e w3 ⟨rfl, rfl⟩
        clear HF1
        go_wp2_with fail
        refine (HST.out w3).mono ?_
        rintro e w4 ⟨rfl, b0⟩
        have F3 := Lib.hid (F8.out.call b0)
        clear b0 q0 q1 q2 q3 q4 q5 q6 fq
        obtain ⟨q0, q1, q2, q3, q4, q5, q6⟩ := F3.out.cells
        have fq := F3.out.free
        go_upto_region 7 with fail
        obtain ⟨w5, hW⟩ : ∃ x, ((((((w4.setCell ⟨w.heap.size, 0, none⟩ (.slice af s.files.length cf)).setCell ⟨w.heap.size, 1, none⟩ (.slice an s.now.length cn)).setCell ⟨w.heap.size, 2, none⟩ (.slice az s.sure.length cs)).setCell ⟨w.heap.size, 3, none⟩ (.slice aa s.acts.length ca)).setCell ⟨w.heap.size, 4, none⟩ (.int .i64 (s.room : Int))).setCell ⟨w.heap.size, 5, none⟩ (.int .i64 (s.steps : Int))).setCell ⟨w.heap.size, 6, none⟩ (.int .i64 (lim s)) = x := ⟨_, rfl⟩
        rw [hW]
        have ht := F3.out.put hW
        have F4 := Lib.hid ht.1
        have P4 := Lib.hid ht.2
        clear hW ht q0 q1 q2 q3 q4 q5 q6 fq
        obtain ⟨q0, q1, q2, q3, q4, q5, q6⟩ := F4.out.cells
        obtain ⟨r0, r1, r2, r3, r4, r5, r6⟩ := F4.out.rcells
        have fr := F4.out.rfree
        go_wp2_with fail
        obtain ⟨W, hW⟩ : ∃ x, ((((((w5.setCell ⟨w.heap.size + 1, 0, none⟩ (.slice af s.files.length cf)).setCell ⟨w.heap.size + 1, 1, none⟩ (.slice an s.now.length cn)).setCell ⟨w.heap.size + 1, 2, none⟩ (.slice az s.sure.length cs)).setCell ⟨w.heap.size + 1, 3, none⟩ (.slice aa s.acts.length ca)).setCell ⟨w.heap.size + 1, 4, none⟩ (.int .i64 (s.room : Int))).setCell ⟨w.heap.size + 1, 5, none⟩ (.int .i64 (s.steps : Int))).setCell ⟨w.heap.size + 1, 6, none⟩ (.int .i64 (lim s)) = x := ⟨_, rfl⟩
        rw [hW]
        obtain ⟨hX, hP, hBe⟩ := F4.out.fin hW
        have PW := Lib.hid hP
        have BW := Lib.hid hBe
        clear hW hP hBe q0 q1 q2 q3 q4 q5 q6 r0 r1 r2 r3 r4 r5 r6 fr
        obtain ⟨q0, q1, q2, q3, q4, q5, q6⟩ := hX.cells
        clear hX
        refine bodyPost_ret (v := .tuple #[.agg #[.slice af s.files.length cf, .slice an s.now.length cn, .slice az s.sure.length cs, .slice aa s.acts.length ca, .int .i64 (s.room : Int), .int .i64 (s.steps : Int), .int .i64 (lim s)], .int .i64 190]) (by simp [results, Tryz.results25, go_sem, q0, q1, q2, q3, q4, q5, q6]) rfl ⟨_, rfl, ⟨⟨_, _, _, _, rfl, ?_⟩⟩, BW.out⟩
        exact HH.out.kept (fun k hk => ⟨Or.inl hk, BW.out.block k (HS.out k hk)⟩)
      · rw [if_neg h0]
        have HST := Lib.hid (fun (W : World) => rstep_t (af := af) (an := an) (az := az) (aa := aa) (cf := cf) (cn := cn) (cs := cs) (ca := ca) hB h0 W)
        have HH := Lib.hid hR
        have HS := Lib.hid hS
        have HB := Lib.hid hB
        have HT := Lib.hid (Fr.make w (.slice af s.files.length cf) (.slice an s.now.length cn) (.slice az s.sure.length cs) (.slice aa s.acts.length ca) (s.room : Int) (s.steps : Int) (lim s))
        clear hR hS hB
        unfold fsV zrow at HT
        unfold fsV
        unfold fsV at HST
        go_enter Tryz.func25, Tryz.ntmps25
        go_upto_region 1 with fail
        obtain ⟨w2, hw2⟩ : ∃ x, ((w.alloc (.cells #[.slice af s.files.length cf, .slice an s.now.length cn, .slice az s.sure.length cs, .slice aa s.acts.length ca, .int .i64 (s.room : Int), .int .i64 (s.steps : Int), .int .i64 (lim s)] 33)).alloc (.cells #[.slice none 0 0, .slice none 0 0, .slice none 0 0, .slice none 0 0, .int .i64 0, .int .i64 0, .int .i64 0] 33)) = x := ⟨_, rfl⟩
        rw [hw2] at HT ⊢
        clear hw2
        have HC1 := Lib.hid (HCK.out w2)
        clear HCK
        go_wp2_with fail
        refine HC1.out.mono ?_
        rintro e w8 ⟨rfl, b8⟩
        have F8 := Lib.hid (HT.out.call b8)
        clear b8 HC1 HT
        obtain ⟨q0, q1, q2, q3, q4, q5, q6⟩ := F8.out.cells
        have fq := F8.out.free
        have HF1 := Lib.hid (HF.out w8 F8.out.below)
        clear HF
        go_wp2_with fail
        refine HF1.out.mono ?_
        rintro e w3 ⟨rfl, rfl⟩
        clear HF1
        go_wp2_with fail
        refine (HST.out w3).mono ?_
        rintro e w0 ⟨rfl, b0⟩
        have F3 := Lib.hid (F8.out.call b0)
        clear b0 q0 q1 q2 q3 q4 q5 q6 fq
        obtain ⟨q0, q1, q2, q3, q4, q5, q6⟩ := F3.out.cells
        have fq := F3.out.free
        go_upto_region 9 with fail
        obtain ⟨w6, hW⟩ : ∃ x, ((((((w0.setCell ⟨w.heap.size, 0, none⟩ (.slice af s.files.length cf)).setCell ⟨w.heap.size, 1, none⟩ (.slice an s.now.length cn)).setCell ⟨w.heap.size, 2, none⟩ (.slice az s.sure.length cs)).setCell ⟨w.heap.size, 3, none⟩ (.slice aa s.acts.length ca)).setCell ⟨w.heap.size, 4, none⟩ (.int .i64 (s.room : Int))).setCell ⟨w.heap.size, 5, none⟩ (.int .i64 ((tick s).steps : Int))).setCell ⟨w.heap.size, 6, none⟩ (.int .i64 (lim (tick s))) = x := ⟨_, rfl⟩
        rw [hW]
        have ht := F3.out.put hW
        have F4 := Lib.hid ht.1
        have P4 := Lib.hid ht.2
        clear hW ht q0 q1 q2 q3 q4 q5 q6 fq
        obtain ⟨i0, hi0, hz0, hz1, hz2⟩ := info_parts Tryz.info74f
        have hfl : s.files.length ≤ 4194304 := by have h1 := HB.out.fl; have h2 := HB.out.st; omega
        have HLT := Lib.hid F4.out.lt
        obtain ⟨c3', _, _, _, _, _, _⟩ := (F4.out.box.kept (Below.heap_alloc w6 (.cells #[] 74) w.heap.size (by have := HLT.out; omega))).cells
        have HO := Lib.hid (ownF_empty w6)
        have SRC : Hid (Src Tryz.prog 2 29 (.slice af s.files.length cf) s.files.length (fiV s.files) (w6.alloc (.cells #[] 74))) := Lib.hid ((CellsC.kept HH.out.files (S' := fun _ => True) (fun k hk => ⟨trivial, (Below.heap_alloc w6 _ k (by have := HS.out k hk; have := HLT.out; omega)).trans (F4.out.below.block k (HS.out k hk))⟩)).src Tryz.underlying29)
        have BQ := Lib.hid ((Below.refl w6.heap.size w6).alloc (Nat.le_refl _) (.cells #[] 74))
        go_upto_region 10 with (at_builtin; refine wpList_own_src _ rfl _ _ 29 29 rfl w6.heap.size 74 i0 (.agg #[.string ByteArray.empty, .int .i64 0]) 2 24 Tryz.underlying29 hi0 hz0 hz1 hz2 rfl (by decide) _ _ _ rfl HO.out _ s.files.length _ rfl SRC.out (by unfold maxLen; simp; omega) (by simp; omega) (by simp) ?_; intro v7 w7 hown7 hg7)
        have O7 : Hid (OwnF w7 w6.heap.size v7 s.files) := Lib.hid (ownF_more (l := []) (by simp) hown7)
        have B7 : Hid (Below w6.heap.size w6 w7) := Lib.hid (BQ.out.grown hg7.gb (by simp) (fun q hq => Nat.le_of_eq (Option.some.inj hq)))
        clear hown7 hg7 c3' BQ SRC HO
        obtain ⟨ua, uc, rfl⟩ := ownF_slice O7.out
        go_wp2_with (at_builtin; refine wpList_own_src _ rfl _ _ 29 29 rfl w6.heap.size 74 i0 (.agg #[.string ByteArray.empty, .int .i64 0]) 2 24 Tryz.underlying29 hi0 hz0 hz1 hz2 rfl (by decide) _ _ _ rfl (World.ownsRow.alloc O7.out _) _ 1 [.string ByteArray.empty, .int .i64 0] rfl (srcF_one _ _ _) (by unfold maxLen; omega) (by omega) (by have := B7.out.size; simp; omega) ?_)
        intro v9 w9 hown9 hg9
        have O9 : Hid (OwnF w9 w6.heap.size v9 (s.files ++ [noFi])) := Lib.hid (ownF_more (r := [noFi]) rfl hown9)
        have B9 : Hid (Below w6.heap.size w6 w9) := Lib.hid ((B7.out.alloc B7.out.size _).grown hg9.gb (by have := B7.out.size; simp; omega) (fun j hj => (World.ownsRow.lt O7.out j hj).1))
        clear hown9 hg9
        have F9 := Lib.hid (F4.out.call B9.out)
        obtain ⟨a9, c9, rfl⟩ := ownF_slice O9.out
        have hl9 : (s.files ++ [noFi]).length = s.files.length + 1 := by simp
        rw [hl9] at O9 ⊢
        have ff : w9.frozen? ⟨w.heap.size, 0, none⟩ = false := F9.out.free 0
        obtain ⟨e0, _, _, _, _, _, _⟩ := F9.out.cells
        go_upto_region 11 with fail
        have ht := F9.out.one 0 (.slice a9 (s.files.length + 1) c9) (vf' := .slice a9 (s.files.length + 1) c9) (vn' := .slice an s.now.length cn) (vs' := .slice az s.sure.length cs) (va' := .slice aa s.acts.length ca) (room' := (s.room : Int)) (steps' := ((tick s).steps : Int)) (l' := lim (tick s)) rfl
        have F10 := Lib.hid ht.1
        have P10 := Lib.hid ht.2
        clear ht ff e0
        generalize w9.setCell ⟨w.heap.size, 0, none⟩ (.slice a9 (s.files.length + 1) c9) = w4 at *
        have HR4 : Hid (FsR (fun k => S k ∨ (w6.heap.size ≤ k ∧ k < w4.heap.size)) w4 (.slice a9 (newF s).files.length c9) (.slice an (newF s).now.length cn) (.slice az (newF s).sure.length cs) (.slice aa (newF s).acts.length ca) (newF s)) := Lib.hid (by
          have hS2 : ∀ k, S k → (S k ∨ (w6.heap.size ≤ k ∧ k < w4.heap.size)) ∧ w4.heap[k]? = w.heap[k]? := fun k hk => ⟨Or.inl hk, F10.out.below.block k (HS.out k hk)⟩
          refine ⟨?_, HH.out.now.kept hS2, HH.out.sure.kept hS2, HH.out.acts.kept hS2⟩
          have h := ownF_c (l := s.files ++ [noFi]) (v := .slice a9 (s.files.length + 1) c9) O9.out
          have e : (newF s).files.length = s.files.length + 1 := hl9
          rw [e]
          have h2 : CellsC (fun k => w6.heap.size ≤ k ∧ k < w9.heap.size) w9 (.slice a9 (s.files.length + 1) c9) (s.files.length + 1) 2 (fiV (s.files ++ [noFi])) := by rw [hl9] at h; exact h
          refine h2.kept (fun k hk => ⟨Or.inr ⟨hk.1, by have := P10.out.size; omega⟩, P10.out.far k (by have := HLT.out; omega)⟩))
        have Z6 := Lib.hid F4.out.below.size
        have Z4 : Hid (w6.heap.size ≤ w4.heap.size) := Lib.hid (by have h1 := P10.out.size; have h2 := B9.out.size; omega)
        have HFL := Lib.hid (rchange_any (fun k => S k ∨ (w6.heap.size ≤ k ∧ k < w4.heap.size)) a9 an az aa c9 cn cs ca (s.room : Int) ((tick s).steps : Int) (lim (tick s)) (newF s) ⟨[], x, some s.files.length⟩ w4 HR4.out (fun k hk => by
          rcases hk with hk | hk
          · exact Nat.lt_of_lt_of_le (HS.out k hk) F10.out.below.size
          · exact hk.2) HB.out.ok.nowOk.rise (fun p hp => (HB.out.ok.nowOk.nm p hp).1) (by have h1 := HB.out.ok.nowLen; have h2 := HB.out.st; show s.now.length ≤ _; omega) (by have h1 := HB.out.ok.cnt; have h2 := HB.out.st; show s.acts.length ≤ _; omega))
        rw [show (newF s).files.length = s.files.length + 1 from hl9, show (newF s).sure.length = s.sure.length from rfl, show (newF s).now.length = s.now.length from rfl, show (newF s).acts.length = s.acts.length from rfl] at HFL
        unfold fsV at HFL
        have hw1 : IntKind.i64.wrap ((s.files.length : Int) + 1 - 1) = (s.files.length : Int) := by rw [show (s.files.length : Int) + 1 - 1 = (s.files.length : Int) by omega]; exact IntWalk.i64_in _ (by omega)
        have hsub : (s.files.length : Int) + 1 - 1 = (s.files.length : Int) := by omega
        obtain ⟨q0, q1, q2, q3, q4, q5, q6⟩ := F10.out.cells
        have fq := F10.out.free
        go_wp2_with fail
        refine HFL.out.mono ?_
        rintro e w5 ⟨vn, va, rfl, R5, b5⟩
        obtain ⟨z5, k5, rfl⟩ := CellsC.shape R5.now
        obtain ⟨y5, j5, rfl⟩ := CellsC.shape R5.acts
        obtain ⟨m5, hm5⟩ : ∃ q, (chg (newF s) ⟨[], x, some s.files.length⟩).now.length = q := ⟨_, rfl⟩
        obtain ⟨n5, hn5⟩ : ∃ q, (chg (newF s) ⟨[], x, some s.files.length⟩).acts.length = q := ⟨_, rfl⟩
        rw [hm5, hn5] at R5 ⊢
        clear hm5 hn5
        have HR5 := Lib.hid R5
        have F5 := Lib.hid (F10.out.call b5)
        have ZB5 := Lib.hid b5.size
        clear b5 R5 HFL q0 q1 q2 q3 q4 q5 q6 fq
        obtain ⟨r0, r1, r2, r3, r4, r5, r6⟩ := F5.out.rcells
        have fr := F5.out.rfree
        go_wp2_with fail
        obtain ⟨W, hW⟩ : ∃ x, ((((((w5.setCell ⟨w.heap.size + 1, 0, none⟩ (.slice a9 (s.files.length + 1) c9)).setCell ⟨w.heap.size + 1, 1, none⟩ (.slice z5 m5 k5)).setCell ⟨w.heap.size + 1, 2, none⟩ (.slice az s.sure.length cs)).setCell ⟨w.heap.size + 1, 3, none⟩ (.slice y5 n5 j5)).setCell ⟨w.heap.size + 1, 4, none⟩ (.int .i64 (s.room : Int))).setCell ⟨w.heap.size + 1, 5, none⟩ (.int .i64 ((tick s).steps : Int))).setCell ⟨w.heap.size + 1, 6, none⟩ (.int .i64 (lim (tick s))) = x := ⟨_, rfl⟩
        rw [hW]
        obtain ⟨hX, hP, hBe⟩ := F5.out.fin hW
        have PW := Lib.hid hP
        have BW := Lib.hid hBe
        clear hW hP hBe  r0 r1 r2 r3 r4 r5 r6 fr
        obtain ⟨q0, q1, q2, q3, q4, q5, q6⟩ := hX.cells
        clear hX
        refine bodyPost_ret (v := .tuple #[.agg #[.slice a9 (s.files.length + 1) c9, .slice z5 m5 k5, .slice az s.sure.length cs, .slice y5 n5 j5, .int .i64 (s.room : Int), .int .i64 ((tick s).steps : Int), .int .i64 (lim (tick s))], .int .i64 0]) (by simp [results, Tryz.results25, go_sem, q0, q1, q2, q3, q4, q5, q6]) rfl ⟨_, rfl, ⟨⟨_, _, _, _, rfl, ?_⟩⟩, BW.out⟩
        have hz := PW.out.size
        have hz6 := Z6.out
        have hz4 := Z4.out
        have hlt := HLT.out
        have hz5 := ZB5.out
        have hK : ∀ k, ((S k ∨ (w6.heap.size ≤ k ∧ k < w4.heap.size)) ∨ (w4.heap.size ≤ k ∧ k < w5.heap.size)) → (S k ∨ (w.heap.size ≤ k ∧ k < W.heap.size)) ∧ W.heap[k]? = w5.heap[k]? := fun k hk => by
          rcases hk with (hk | hk) | hk
          · have h1 := HS.out k hk
            exact ⟨Or.inl hk, PW.out.far k (by omega)⟩
          · exact ⟨Or.inr ⟨by omega, by omega⟩, PW.out.far k (by omega)⟩
          · exact ⟨Or.inr ⟨by omega, by omega⟩, PW.out.far k (by omega)⟩
        have h := HR5.out.kept hK
        exact ⟨h.files, h.now, h.sure, h.acts⟩
end Go.Proofs.YtjefcalndfcmdaaGreatDoor
