/- The reference's Append. -/
import Derived.Test.YtjefcalndfcmdaaGreatDoorVgOR
namespace Go.Proofs.YtjefcalndfcmdaaGreatDoor
open Go.RowKit Go.Maps
attribute [local go_sem ↓] Go.wp_at_zero Go.wp_at_succ
theorem ba_app (a b : Nm) : (⟨a.toArray⟩ : ByteArray) ++ (⟨b.toArray⟩ : ByteArray) = ⟨(a ++ b).toArray⟩ := by apply ByteArray.ext; simp
attribute [local go_sem] ba_app
set_option maxRecDepth 100000 in
set_option maxHeartbeats 4000000 in
theorem rAppend_any (S : Nat → Prop) (v : Value) (s : Fs) (x : Nm) (b : Nm) (w : World) (h : FsV S w v s) (hS : ∀ k, S k → k < w.heap.size) (hB : Bd s) (hb : b.length ≤ 1073741824) :
    Calls Tryz.prog 26 #[v, .string ⟨x.toArray⟩, .string ⟨b.toArray⟩] w (RP S w (appendS s x b).1 (appendS s x b).2) := by
  obtain ⟨af, an, az, aa, cf, cn, cs, ca, rfl, hR⟩ := h.shape
  clear h
  have HF := Lib.hid (fun (W : World) (hbe : Below w.heap.size w W) => rfind_any S (.slice an s.now.length cn) s.now x W (hR.now.kept (fun k hk => ⟨hk, hbe.block k (hS k hk)⟩)) (by have h1 := hB.ok.nowLen; have h2 := hB.st; omega))
  unfold appendS
  cases hf : fnd s.now x with
  | none =>
    have hI : fndI s.now x = -1 := by unfold fndI; rw [hf]
    rw [hI] at HF
    clear hI hf
    dsimp only
    have HH := Lib.hid hR
    have HS := Lib.hid hS
    have HB := Lib.hid hB
    have HT := Lib.hid (Fr.make w (.slice af s.files.length cf) (.slice an s.now.length cn) (.slice az s.sure.length cs) (.slice aa s.acts.length ca) (s.room : Int) (s.steps : Int) (lim s))
    clear hR hS hB
    unfold fsV zrow at HT
    unfold fsV
    go_enter Tryz.func26, Tryz.ntmps26
    go_upto_region 1 with fail
    obtain ⟨w2, hw2⟩ : ∃ x, ((w.alloc (.cells #[.slice af s.files.length cf, .slice an s.now.length cn, .slice az s.sure.length cs, .slice aa s.acts.length ca, .int .i64 (s.room : Int), .int .i64 (s.steps : Int), .int .i64 (lim s)] 33)).alloc (.cells #[.slice none 0 0, .slice none 0 0, .slice none 0 0, .slice none 0 0, .int .i64 0, .int .i64 0, .int .i64 0] 33)) = x := ⟨_, rfl⟩
    rw [hw2] at HT ⊢
    clear hw2
    obtain ⟨q0, q1, q2, q3, q4, q5, q6⟩ := HT.out.cells
    have fq := HT.out.free
    have HF1 := Lib.hid (HF.out w2 HT.out.below)
    clear HF
    go_wp2_with fail
    refine HF1.out.mono ?_
    rintro e w3 ⟨rfl, rfl⟩
    clear HF1
    obtain ⟨r0, r1, r2, r3, r4, r5, r6⟩ := HT.out.rcells
    have fr := HT.out.rfree
    go_wp2_with fail
    obtain ⟨W, hW⟩ : ∃ x, ((((((w3.setCell ⟨w.heap.size + 1, 0, none⟩ (.slice af s.files.length cf)).setCell ⟨w.heap.size + 1, 1, none⟩ (.slice an s.now.length cn)).setCell ⟨w.heap.size + 1, 2, none⟩ (.slice az s.sure.length cs)).setCell ⟨w.heap.size + 1, 3, none⟩ (.slice aa s.acts.length ca)).setCell ⟨w.heap.size + 1, 4, none⟩ (.int .i64 (s.room : Int))).setCell ⟨w.heap.size + 1, 5, none⟩ (.int .i64 (s.steps : Int))).setCell ⟨w.heap.size + 1, 6, none⟩ (.int .i64 (lim s)) = x := ⟨_, rfl⟩
    rw [hW]
    obtain ⟨hX, hP, hBe⟩ := HT.out.fin hW
    have PW := Lib.hid hP
    have BW := Lib.hid hBe
    clear hW hP hBe q0 q1 q2 q3 q4 q5 q6 fq r0 r1 r2 r3 r4 r5 r6 fr
    obtain ⟨q0, q1, q2, q3, q4, q5, q6⟩ := hX.cells
    clear hX
    refine bodyPost_ret (v := .tuple #[.agg #[.slice af s.files.length cf, .slice an s.now.length cn, .slice az s.sure.length cs, .slice aa s.acts.length ca, .int .i64 (s.room : Int), .int .i64 (s.steps : Int), .int .i64 (lim s)], .int .i64 4]) (by simp [results, Tryz.results26, go_sem, q0, q1, q2, q3, q4, q5, q6]) rfl ⟨_, rfl, ⟨⟨_, _, _, _, rfl, ?_⟩⟩, BW.out⟩
    exact HH.out.kept (fun k hk => ⟨Or.inl hk, BW.out.block k (HS.out k hk)⟩)
  | some i =>
    have hI : fndI s.now x = (i : Int) := by unfold fndI; rw [hf]
    rw [hI] at HF
    have hif : i < s.files.length := hB.ok.nowOk.lt _ (fnd_mem hf)
    obtain ⟨g2, o2, haf, hSg, _, _, hat⟩ := CellsC.at hR.files (by omega)
    subst haf
    have hc := fiV_at hif
    have HC0 : Hid (∀ W, Below w.heap.size w W → W.cell? ⟨g2, o2 + i * 2, none⟩ = some (.string ⟨(s.files.getD i noFi).data.toArray⟩)) := Lib.hid (fun W hb => (hb.cell (p := ⟨g2, o2 + i * 2, none⟩) (hS _ hSg)).trans (hat _ _ hc.1))
    have HC1 : Hid (∀ W, Below w.heap.size w W → W.cell? ⟨g2, o2 + i * 2 + 1, none⟩ = some (.int .i64 ((s.files.getD i noFi).dur : Int))) := Lib.hid (fun W hb => (hb.cell (p := ⟨g2, o2 + i * 2 + 1, none⟩) (hS _ hSg)).trans (hat _ _ hc.2))
    have hok := hB.ok.dat _ (getD_mem hif)
    obtain ⟨d, hd⟩ : ∃ q, (s.files.getD i noFi).data = q := ⟨_, rfl⟩
    obtain ⟨u, hu⟩ : ∃ q, (s.files.getD i noFi).dur = q := ⟨_, rfl⟩
    rw [hd, hu] at hok
    rw [hd] at HC0
    rw [hu] at HC1
    have HDE := Lib.hid hd
    have HUE := Lib.hid hu
    clear hat hc hSg hd hu
    have hib : i ≤ 4194304 := by have h1 := hB.fl; have h2 := hB.st; omega
    have hul : used s ≤ 70368744177664 := by
      have h1 := usedD_le (fun f hf => (hB.ok.dat f hf).2) s.now
      have h2 := hB.ok.nowLen
      have h3 := hB.st
      unfold used
      omega
    have hrm := hB.ok.room
    clear hI hf
    dsimp only
    rw [HDE.out, HUE.out]
    have HUS := Lib.hid (fun (W : World) (hbe : Below w.heap.size w W) => rused_any S (some ⟨g2, o2, none⟩) an az aa cf cn cs ca (s.room : Int) (s.steps : Int) (lim s) s W (hR.kept (fun k hk => ⟨hk, hbe.block k (hS k hk)⟩)) (fun k hk => Nat.lt_of_lt_of_le (hS k hk) hbe.size) hul hB.ok.nowOk.lt (by have h1 := hB.ok.nowLen; have h2 := hB.st; omega) (by have h1 := hB.fl; have h2 := hB.st; omega))
    unfold fsV at HUS
    obtain ⟨us, hus⟩ : ∃ q, used s = q := ⟨_, rfl⟩
    rw [hus] at HUS hul
    rw [hus]
    clear hus
    have hw1 : IntKind.i64.wrap ((s.room : Int) - (us : Int)) = (s.room : Int) - (us : Int) := IntWalk.i64_in _ (by omega)
    by_cases hm : (s.room : Int) - (us : Int) < (b.length : Int)
    · rw [if_pos hm]
      have y1 : decide ((b.length : Int) > (s.room : Int) - (us : Int)) = true := decide_eq_true hm
      have y2 : decide ((s.room : Int) - (us : Int) < (b.length : Int)) = true := decide_eq_true hm
      clear hm
      have HH := Lib.hid hR
      have HS := Lib.hid hS
      have HB := Lib.hid hB
      have HT := Lib.hid (Fr.make w (.slice (some ⟨g2, o2, none⟩) s.files.length cf) (.slice an s.now.length cn) (.slice az s.sure.length cs) (.slice aa s.acts.length ca) (s.room : Int) (s.steps : Int) (lim s))
      clear hR hS hB
      unfold fsV zrow at HT
      unfold fsV
      go_enter Tryz.func26, Tryz.ntmps26
      go_upto_region 1 with fail
      obtain ⟨w2, hw2⟩ : ∃ x, ((w.alloc (.cells #[.slice (some ⟨g2, o2, none⟩) s.files.length cf, .slice an s.now.length cn, .slice az s.sure.length cs, .slice aa s.acts.length ca, .int .i64 (s.room : Int), .int .i64 (s.steps : Int), .int .i64 (lim s)] 33)).alloc (.cells #[.slice none 0 0, .slice none 0 0, .slice none 0 0, .slice none 0 0, .int .i64 0, .int .i64 0, .int .i64 0] 33)) = x := ⟨_, rfl⟩
      rw [hw2] at HT ⊢
      clear hw2
      obtain ⟨q0, q1, q2, q3, q4, q5, q6⟩ := HT.out.cells
      have fq := HT.out.free
      have HF1 := Lib.hid (HF.out w2 HT.out.below)
      clear HF
      go_wp2_with fail
      refine HF1.out.mono ?_
      rintro e w3 ⟨rfl, rfl⟩
      clear HF1
      have FD0 := Lib.hid (HT.out.drew 1)
      have hwd : w3.drewN 1 = w3.drew := rfl
      rw [hwd] at FD0
      clear hwd q0 q1 q2 q3 q4 q5 q6 fq
      go_upto_region 4 with fail
      refine wp_region_D 7 (fun W => W.cell? ⟨w.heap.size, 0, none⟩ = some (.slice (some ⟨g2, o2, none⟩) s.files.length cf) ∧ W.cell? ⟨w.heap.size, 1, none⟩ = some (.slice an s.now.length cn) ∧ W.cell? ⟨w.heap.size, 2, none⟩ = some (.slice az s.sure.length cs) ∧ W.cell? ⟨w.heap.size, 3, none⟩ = some (.slice aa s.acts.length ca) ∧ W.cell? ⟨w.heap.size, 4, none⟩ = some (.int .i64 (s.room : Int)) ∧ W.cell? ⟨w.heap.size, 5, none⟩ = some (.int .i64 (s.steps : Int)) ∧ W.cell? ⟨w.heap.size, 6, none⟩ = some (.int .i64 (lim s))) (by kernel_rfl) (by kernel_rfl) (by kernel_rfl) ?_
      have hSd := FD0.out.cells
      refine wpAnyD_take (i := 0) (oi := ⟨_, _, _, _, _, _⟩) (v := ?_) rfl (by kernel_rfl) (by kernel_rfl) (by kernel_rfl) (by kernel_rfl) (fun _ _ _ h => h) (fun _ _ h => h) (Or.inl (Or.inl ⟨by rfl, ?_⟩)) hSd ?_
      rotate_left
      · intro W hSw; (try dsimp only at hSw); first | (go_simp; done) | (go_simp; with_reducible rfl)
      try simp only [Act.put, List.setIfInBounds_toArray, List.set_cons_zero, List.set_cons_succ]
      refine wpAnyD_take (i := 1) (oi := ⟨_, _, _, _, _, _⟩) (v := ?_) rfl (by kernel_rfl) (by kernel_rfl) (by kernel_rfl) (by kernel_rfl) (fun _ _ _ h => h) (fun _ _ h => h) (Or.inl (Or.inl ⟨by rfl, ?_⟩)) hSd ?_
      rotate_left
      · intro W hSw; (try dsimp only at hSw); first | (go_simp; done) | (go_simp; with_reducible rfl)
      try simp only [Act.put, List.setIfInBounds_toArray, List.set_cons_zero, List.set_cons_succ]
      refine wpAnyD_take (i := 2) (oi := ⟨_, _, _, _, _, _⟩) (v := ?_) rfl (by kernel_rfl) (by kernel_rfl) (by kernel_rfl) (by kernel_rfl) (fun _ _ _ h => h) (fun _ _ h => h) (Or.inl (Or.inl ⟨by rfl, ?_⟩)) hSd ?_
      rotate_left
      · intro W hSw; (try dsimp only at hSw); first | (go_simp; done) | (go_simp; with_reducible rfl)
      try simp only [Act.put, List.setIfInBounds_toArray, List.set_cons_zero, List.set_cons_succ]
      refine wpAnyD_take (i := 3) (oi := ⟨_, _, _, _, _, _⟩) (v := ?_) rfl (by kernel_rfl) (by kernel_rfl) (by kernel_rfl) (by kernel_rfl) (fun _ _ _ h => h) (fun _ _ h => h) (Or.inl (Or.inl ⟨by rfl, ?_⟩)) hSd ?_
      rotate_left
      · intro W hSw; (try dsimp only at hSw); first | (go_simp; done) | (go_simp; with_reducible rfl)
      try simp only [Act.put, List.setIfInBounds_toArray, List.set_cons_zero, List.set_cons_succ]
      refine wpAnyD_take (i := 4) (oi := ⟨_, _, _, _, _, _⟩) (v := ?_) rfl (by kernel_rfl) (by kernel_rfl) (by kernel_rfl) (by kernel_rfl) (fun _ _ _ h => h) (fun _ _ h => h) (Or.inl (Or.inl ⟨by rfl, ?_⟩)) hSd ?_
      rotate_left
      · intro W hSw; (try dsimp only at hSw); first | (go_simp; done) | (go_simp; with_reducible rfl)
      try simp only [Act.put, List.setIfInBounds_toArray, List.set_cons_zero, List.set_cons_succ]
      clear hSd
      refine wpAnyD_one (i := 5) (o := ⟨_, _, _, _, _, _⟩) (by kernel_rfl) (by decide) rfl (fun nD K hK0 => ?_)
      have hK := Lib.hid hK0
      clear hK0
      have FD1 := Lib.hid (FD0.out.drew nD)
      generalize w3.drew.drewN nD = w7 at *
      have HUS1 := Lib.hid (HUS.out w7 FD1.out.below)
      clear HUS FD0
      go_simp
      refine HUS1.out.mono ?_
      rintro e w8 ⟨rfl, b8⟩
      have F8 := Lib.hid (FD1.out.call b8)
      clear b8 HUS1 FD1
      refine hK.out _ _ F8.out.cells ?_
      clear hK K
      have hSd := F8.out.cells
      try simp only [Act.put, List.setIfInBounds_toArray, List.set_cons_zero, List.set_cons_succ]
      refine wpAnyD_take (i := 6) (oi := ⟨_, _, _, _, _, _⟩) (v := ?_) rfl (by kernel_rfl) (by kernel_rfl) (by kernel_rfl) (by kernel_rfl) (fun _ _ _ h => h) (fun _ _ h => h) (Or.inl (Or.inl ⟨by rfl, ?_⟩)) hSd ?_
      rotate_left
      · intro W hSw; (try dsimp only at hSw); first | (go_simp; done) | (go_simp; with_reducible rfl)
      try simp only [Act.put, List.setIfInBounds_toArray, List.set_cons_zero, List.set_cons_succ]
      refine wpAnyD_last (by kernel_rfl) (fun nD => ?_)
      refine wpOp_one rfl (by rfl) ?_
      have F9 := Lib.hid (F8.out.drew nD)
      clear hSd
      generalize w8.drewN nD = w9 at *
      clear F8 HT
      go_simp
      obtain ⟨q0, q1, q2, q3, q4, q5, q6⟩ := F9.out.cells
      have fq := F9.out.free
      obtain ⟨r0, r1, r2, r3, r4, r5, r6⟩ := F9.out.rcells
      have fr := F9.out.rfree
      go_wp2_with fail
      obtain ⟨W, hW⟩ : ∃ x, ((((((w9.setCell ⟨w.heap.size + 1, 0, none⟩ (.slice (some ⟨g2, o2, none⟩) s.files.length cf)).setCell ⟨w.heap.size + 1, 1, none⟩ (.slice an s.now.length cn)).setCell ⟨w.heap.size + 1, 2, none⟩ (.slice az s.sure.length cs)).setCell ⟨w.heap.size + 1, 3, none⟩ (.slice aa s.acts.length ca)).setCell ⟨w.heap.size + 1, 4, none⟩ (.int .i64 (s.room : Int))).setCell ⟨w.heap.size + 1, 5, none⟩ (.int .i64 (s.steps : Int))).setCell ⟨w.heap.size + 1, 6, none⟩ (.int .i64 (lim s)) = x := ⟨_, rfl⟩
      rw [hW]
      obtain ⟨hX, hP, hBe⟩ := F9.out.fin hW
      have PW := Lib.hid hP
      have BW := Lib.hid hBe
      clear hW hP hBe q0 q1 q2 q3 q4 q5 q6 fq r0 r1 r2 r3 r4 r5 r6 fr
      obtain ⟨q0, q1, q2, q3, q4, q5, q6⟩ := hX.cells
      clear hX
      refine bodyPost_ret (v := .tuple #[.agg #[.slice (some ⟨g2, o2, none⟩) s.files.length cf, .slice an s.now.length cn, .slice az s.sure.length cs, .slice aa s.acts.length ca, .int .i64 (s.room : Int), .int .i64 (s.steps : Int), .int .i64 (lim s)], .int .i64 3]) (by simp [results, Tryz.results26, go_sem, q0, q1, q2, q3, q4, q5, q6]) rfl ⟨_, rfl, ⟨⟨_, _, _, _, rfl, ?_⟩⟩, BW.out⟩
      exact HH.out.kept (fun k hk => ⟨Or.inl hk, BW.out.block k (HS.out k hk)⟩)
    · rw [if_neg hm]
      have y1 : decide ((b.length : Int) > (s.room : Int) - (us : Int)) = false := decide_eq_false hm
      have y2 : decide ((s.room : Int) - (us : Int) < (b.length : Int)) = false := decide_eq_false hm
      clear hm
      by_cases h0 : s.more = 0
      · rw [if_pos h0]
        have HST := Lib.hid (fun (W : World) => rstep_c (af := some ⟨g2, o2, none⟩) (an := an) (az := az) (aa := aa) (cf := cf) (cn := cn) (cs := cs) (ca := ca) h0 W)
        have HH := Lib.hid hR
        have HS := Lib.hid hS
        have HB := Lib.hid hB
        have HT := Lib.hid (Fr.make w (.slice (some ⟨g2, o2, none⟩) s.files.length cf) (.slice an s.now.length cn) (.slice az s.sure.length cs) (.slice aa s.acts.length ca) (s.room : Int) (s.steps : Int) (lim s))
        clear hR hS hB
        unfold fsV zrow at HT
        unfold fsV
        unfold fsV at HST
        go_enter Tryz.func26, Tryz.ntmps26
        go_upto_region 1 with fail
        obtain ⟨w2, hw2⟩ : ∃ x, ((w.alloc (.cells #[.slice (some ⟨g2, o2, none⟩) s.files.length cf, .slice an s.now.length cn, .slice az s.sure.length cs, .slice aa s.acts.length ca, .int .i64 (s.room : Int), .int .i64 (s.steps : Int), .int .i64 (lim s)] 33)).alloc (.cells #[.slice none 0 0, .slice none 0 0, .slice none 0 0, .slice none 0 0, .int .i64 0, .int .i64 0, .int .i64 0] 33)) = x := ⟨_, rfl⟩
        rw [hw2] at HT ⊢
        clear hw2
        obtain ⟨q0, q1, q2, q3, q4, q5, q6⟩ := HT.out.cells
        have fq := HT.out.free
        have HF1 := Lib.hid (HF.out w2 HT.out.below)
        clear HF
        go_wp2_with fail
        refine HF1.out.mono ?_
        rintro e w3 ⟨rfl, rfl⟩
        clear HF1
        have FD0 := Lib.hid (HT.out.drew 1)
        have hwd : w3.drewN 1 = w3.drew := rfl
        rw [hwd] at FD0
        clear hwd q0 q1 q2 q3 q4 q5 q6 fq
        go_upto_region 4 with fail
        refine wp_region_D 7 (fun W => W.cell? ⟨w.heap.size, 0, none⟩ = some (.slice (some ⟨g2, o2, none⟩) s.files.length cf) ∧ W.cell? ⟨w.heap.size, 1, none⟩ = some (.slice an s.now.length cn) ∧ W.cell? ⟨w.heap.size, 2, none⟩ = some (.slice az s.sure.length cs) ∧ W.cell? ⟨w.heap.size, 3, none⟩ = some (.slice aa s.acts.length ca) ∧ W.cell? ⟨w.heap.size, 4, none⟩ = some (.int .i64 (s.room : Int)) ∧ W.cell? ⟨w.heap.size, 5, none⟩ = some (.int .i64 (s.steps : Int)) ∧ W.cell? ⟨w.heap.size, 6, none⟩ = some (.int .i64 (lim s))) (by kernel_rfl) (by kernel_rfl) (by kernel_rfl) ?_
        have hSd := FD0.out.cells
        refine wpAnyD_take (i := 0) (oi := ⟨_, _, _, _, _, _⟩) (v := ?_) rfl (by kernel_rfl) (by kernel_rfl) (by kernel_rfl) (by kernel_rfl) (fun _ _ _ h => h) (fun _ _ h => h) (Or.inl (Or.inl ⟨by rfl, ?_⟩)) hSd ?_
        rotate_left
        · intro W hSw; (try dsimp only at hSw); first | (go_simp; done) | (go_simp; with_reducible rfl)
        try simp only [Act.put, List.setIfInBounds_toArray, List.set_cons_zero, List.set_cons_succ]
        refine wpAnyD_take (i := 1) (oi := ⟨_, _, _, _, _, _⟩) (v := ?_) rfl (by kernel_rfl) (by kernel_rfl) (by kernel_rfl) (by kernel_rfl) (fun _ _ _ h => h) (fun _ _ h => h) (Or.inl (Or.inl ⟨by rfl, ?_⟩)) hSd ?_
        rotate_left
        · intro W hSw; (try dsimp only at hSw); first | (go_simp; done) | (go_simp; with_reducible rfl)
        try simp only [Act.put, List.setIfInBounds_toArray, List.set_cons_zero, List.set_cons_succ]
        refine wpAnyD_take (i := 2) (oi := ⟨_, _, _, _, _, _⟩) (v := ?_) rfl (by kernel_rfl) (by kernel_rfl) (by kernel_rfl) (by kernel_rfl) (fun _ _ _ h => h) (fun _ _ h => h) (Or.inl (Or.inl ⟨by rfl, ?_⟩)) hSd ?_
        rotate_left
        · intro W hSw; (try dsimp only at hSw); first | (go_simp; done) | (go_simp; with_reducible rfl)
        try simp only [Act.put, List.setIfInBounds_toArray, List.set_cons_zero, List.set_cons_succ]
        refine wpAnyD_take (i := 3) (oi := ⟨_, _, _, _, _, _⟩) (v := ?_) rfl (by kernel_rfl) (by kernel_rfl) (by kernel_rfl) (by kernel_rfl) (fun _ _ _ h => h) (fun _ _ h => h) (Or.inl (Or.inl ⟨by rfl, ?_⟩)) hSd ?_
        rotate_left
        · intro W hSw; (try dsimp only at hSw); first | (go_simp; done) | (go_simp; with_reducible rfl)
        try simp only [Act.put, List.setIfInBounds_toArray, List.set_cons_zero, List.set_cons_succ]
        refine wpAnyD_take (i := 4) (oi := ⟨_, _, _, _, _, _⟩) (v := ?_) rfl (by kernel_rfl) (by kernel_rfl) (by kernel_rfl) (by kernel_rfl) (fun _ _ _ h => h) (fun _ _ h => h) (Or.inl (Or.inl ⟨by rfl, ?_⟩)) hSd ?_
        rotate_left
        · intro W hSw; (try dsimp only at hSw); first | (go_simp; done) | (go_simp; with_reducible rfl)
        try simp only [Act.put, List.setIfInBounds_toArray, List.set_cons_zero, List.set_cons_succ]
        clear hSd
        refine wpAnyD_one (i := 5) (o := ⟨_, _, _, _, _, _⟩) (by kernel_rfl) (by decide) rfl (fun nD K hK0 => ?_)
        have hK := Lib.hid hK0
        clear hK0
        have FD1 := Lib.hid (FD0.out.drew nD)
        generalize w3.drew.drewN nD = w7 at *
        have HUS1 := Lib.hid (HUS.out w7 FD1.out.below)
        clear HUS FD0
        go_simp
        refine HUS1.out.mono ?_
        rintro e w8 ⟨rfl, b8⟩
        have F8 := Lib.hid (FD1.out.call b8)
        clear b8 HUS1 FD1
        refine hK.out _ _ F8.out.cells ?_
        clear hK K
        have hSd := F8.out.cells
        try simp only [Act.put, List.setIfInBounds_toArray, List.set_cons_zero, List.set_cons_succ]
        refine wpAnyD_take (i := 6) (oi := ⟨_, _, _, _, _, _⟩) (v := ?_) rfl (by kernel_rfl) (by kernel_rfl) (by kernel_rfl) (by kernel_rfl) (fun _ _ _ h => h) (fun _ _ h => h) (Or.inl (Or.inl ⟨by rfl, ?_⟩)) hSd ?_
        rotate_left
        · intro W hSw; (try dsimp only at hSw); first | (go_simp; done) | (go_simp; with_reducible rfl)
        try simp only [Act.put, List.setIfInBounds_toArray, List.set_cons_zero, List.set_cons_succ]
        refine wpAnyD_last (by kernel_rfl) (fun nD => ?_)
        refine wpOp_one rfl (by rfl) ?_
        have F9 := Lib.hid (F8.out.drew nD)
        clear hSd
        generalize w8.drewN nD = w9 at *
        clear F8 HT
        go_simp
        obtain ⟨q0, q1, q2, q3, q4, q5, q6⟩ := F9.out.cells
        have fq := F9.out.free
        go_wp2_with fail
        refine (HST.out w9).mono ?_
        rintro e w4 ⟨rfl, b0⟩
        have F3 := Lib.hid (F9.out.call b0)
        clear b0 q0 q1 q2 q3 q4 q5 q6 fq
        obtain ⟨q0, q1, q2, q3, q4, q5, q6⟩ := F3.out.cells
        have fq := F3.out.free
        go_upto_region 7 with fail
        obtain ⟨w5, hW⟩ : ∃ x, ((((((w4.setCell ⟨w.heap.size, 0, none⟩ (.slice (some ⟨g2, o2, none⟩) s.files.length cf)).setCell ⟨w.heap.size, 1, none⟩ (.slice an s.now.length cn)).setCell ⟨w.heap.size, 2, none⟩ (.slice az s.sure.length cs)).setCell ⟨w.heap.size, 3, none⟩ (.slice aa s.acts.length ca)).setCell ⟨w.heap.size, 4, none⟩ (.int .i64 (s.room : Int))).setCell ⟨w.heap.size, 5, none⟩ (.int .i64 (s.steps : Int))).setCell ⟨w.heap.size, 6, none⟩ (.int .i64 (lim s)) = x := ⟨_, rfl⟩
        rw [hW]
        have ht := F3.out.put hW
        have F4 := Lib.hid ht.1
        have P4 := Lib.hid ht.2
        clear hW ht q0 q1 q2 q3 q4 q5 q6 fq
        obtain ⟨q0, q1, q2, q3, q4, q5, q6⟩ := F4.out.cells
        obtain ⟨r0, r1, r2, r3, r4, r5, r6⟩ := F4.out.rcells
        have fr := F4.out.rfree
        go_wp2_with fail
        obtain ⟨W, hW⟩ : ∃ x, ((((((w5.setCell ⟨w.heap.size + 1, 0, none⟩ (.slice (some ⟨g2, o2, none⟩) s.files.length cf)).setCell ⟨w.heap.size + 1, 1, none⟩ (.slice an s.now.length cn)).setCell ⟨w.heap.size + 1, 2, none⟩ (.slice az s.sure.length cs)).setCell ⟨w.heap.size + 1, 3, none⟩ (.slice aa s.acts.length ca)).setCell ⟨w.heap.size + 1, 4, none⟩ (.int .i64 (s.room : Int))).setCell ⟨w.heap.size + 1, 5, none⟩ (.int .i64 (s.steps : Int))).setCell ⟨w.heap.size + 1, 6, none⟩ (.int .i64 (lim s)) = x := ⟨_, rfl⟩
        rw [hW]
        obtain ⟨hX, hP, hBe⟩ := F4.out.fin hW
        have PW := Lib.hid hP
        have BW := Lib.hid hBe
        clear hW hP hBe q0 q1 q2 q3 q4 q5 q6 r0 r1 r2 r3 r4 r5 r6 fr
        obtain ⟨q0, q1, q2, q3, q4, q5, q6⟩ := hX.cells
        clear hX
        refine bodyPost_ret (v := .tuple #[.agg #[.slice (some ⟨g2, o2, none⟩) s.files.length cf, .slice an s.now.length cn, .slice az s.sure.length cs, .slice aa s.acts.length ca, .int .i64 (s.room : Int), .int .i64 (s.steps : Int), .int .i64 (lim s)], .int .i64 190]) (by simp [results, Tryz.results26, go_sem, q0, q1, q2, q3, q4, q5, q6]) rfl ⟨_, rfl, ⟨⟨_, _, _, _, rfl, ?_⟩⟩, BW.out⟩
        exact HH.out.kept (fun k hk => ⟨Or.inl hk, BW.out.block k (HS.out k hk)⟩)
      · rw [if_neg h0]
        have HST := Lib.hid (fun (W : World) => rstep_t (af := some ⟨g2, o2, none⟩) (an := an) (az := az) (aa := aa) (cf := cf) (cn := cn) (cs := cs) (ca := ca) hB h0 W)
        have HH := Lib.hid hR
        have HS := Lib.hid hS
        have HB := Lib.hid hB
        have HT := Lib.hid (Fr.make w (.slice (some ⟨g2, o2, none⟩) s.files.length cf) (.slice an s.now.length cn) (.slice az s.sure.length cs) (.slice aa s.acts.length ca) (s.room : Int) (s.steps : Int) (lim s))
        clear hR hS hB
        unfold fsV zrow at HT
        unfold fsV
        unfold fsV at HST
        go_enter Tryz.func26, Tryz.ntmps26
        go_upto_region 1 with fail
        obtain ⟨w2, hw2⟩ : ∃ x, ((w.alloc (.cells #[.slice (some ⟨g2, o2, none⟩) s.files.length cf, .slice an s.now.length cn, .slice az s.sure.length cs, .slice aa s.acts.length ca, .int .i64 (s.room : Int), .int .i64 (s.steps : Int), .int .i64 (lim s)] 33)).alloc (.cells #[.slice none 0 0, .slice none 0 0, .slice none 0 0, .slice none 0 0, .int .i64 0, .int .i64 0, .int .i64 0] 33)) = x := ⟨_, rfl⟩
        rw [hw2] at HT ⊢
        clear hw2
        obtain ⟨q0, q1, q2, q3, q4, q5, q6⟩ := HT.out.cells
        have fq := HT.out.free
        have HF1 := Lib.hid (HF.out w2 HT.out.below)
        clear HF
        go_wp2_with fail
        refine HF1.out.mono ?_
        rintro e w3 ⟨rfl, rfl⟩
        clear HF1
        have FD0 := Lib.hid (HT.out.drew 1)
        have hwd : w3.drewN 1 = w3.drew := rfl
        rw [hwd] at FD0
        clear hwd q0 q1 q2 q3 q4 q5 q6 fq
        go_upto_region 4 with fail
        refine wp_region_D 7 (fun W => W.cell? ⟨w.heap.size, 0, none⟩ = some (.slice (some ⟨g2, o2, none⟩) s.files.length cf) ∧ W.cell? ⟨w.heap.size, 1, none⟩ = some (.slice an s.now.length cn) ∧ W.cell? ⟨w.heap.size, 2, none⟩ = some (.slice az s.sure.length cs) ∧ W.cell? ⟨w.heap.size, 3, none⟩ = some (.slice aa s.acts.length ca) ∧ W.cell? ⟨w.heap.size, 4, none⟩ = some (.int .i64 (s.room : Int)) ∧ W.cell? ⟨w.heap.size, 5, none⟩ = some (.int .i64 (s.steps : Int)) ∧ W.cell? ⟨w.heap.size, 6, none⟩ = some (.int .i64 (lim s))) (by kernel_rfl) (by kernel_rfl) (by kernel_rfl) ?_
        have hSd := FD0.out.cells
        refine wpAnyD_take (i := 0) (oi := ⟨_, _, _, _, _, _⟩) (v := ?_) rfl (by kernel_rfl) (by kernel_rfl) (by kernel_rfl) (by kernel_rfl) (fun _ _ _ h => h) (fun _ _ h => h) (Or.inl (Or.inl ⟨by rfl, ?_⟩)) hSd ?_
        rotate_left
        · intro W hSw; (try dsimp only at hSw); first | (go_simp; done) | (go_simp; with_reducible rfl)
        try simp only [Act.put, List.setIfInBounds_toArray, List.set_cons_zero, List.set_cons_succ]
        refine wpAnyD_take (i := 1) (oi := ⟨_, _, _, _, _, _⟩) (v := ?_) rfl (by kernel_rfl) (by kernel_rfl) (by kernel_rfl) (by kernel_rfl) (fun _ _ _ h => h) (fun _ _ h => h) (Or.inl (Or.inl ⟨by rfl, ?_⟩)) hSd ?_
        rotate_left
        · intro W hSw; (try dsimp only at hSw); first | (go_simp; done) | (go_simp; with_reducible rfl)
        try simp only [Act.put, List.setIfInBounds_toArray, List.set_cons_zero, List.set_cons_succ]
        refine wpAnyD_take (i := 2) (oi := ⟨_, _, _, _, _, _⟩) (v := ?_) rfl (by kernel_rfl) (by kernel_rfl) (by kernel_rfl) (by kernel_rfl) (fun _ _ _ h => h) (fun _ _ h => h) (Or.inl (Or.inl ⟨by rfl, ?_⟩)) hSd ?_
        rotate_left
        · intro W hSw; (try dsimp only at hSw); first | (go_simp; done) | (go_simp; with_reducible rfl)
        try simp only [Act.put, List.setIfInBounds_toArray, List.set_cons_zero, List.set_cons_succ]
        refine wpAnyD_take (i := 3) (oi := ⟨_, _, _, _, _, _⟩) (v := ?_) rfl (by kernel_rfl) (by kernel_rfl) (by kernel_rfl) (by kernel_rfl) (fun _ _ _ h => h) (fun _ _ h => h) (Or.inl (Or.inl ⟨by rfl, ?_⟩)) hSd ?_
        rotate_left
        · intro W hSw; (try dsimp only at hSw); first | (go_simp; done) | (go_simp; with_reducible rfl)
        try simp only [Act.put, List.setIfInBounds_toArray, List.set_cons_zero, List.set_cons_succ]
        refine wpAnyD_take (i := 4) (oi := ⟨_, _, _, _, _, _⟩) (v := ?_) rfl (by kernel_rfl) (by kernel_rfl) (by kernel_rfl) (by kernel_rfl) (fun _ _ _ h => h) (fun _ _ h => h) (Or.inl (Or.inl ⟨by rfl, ?_⟩)) hSd ?_
        rotate_left
        · intro W hSw; (try dsimp only at hSw); first | (go_simp; done) | (go_simp; with_reducible rfl)
        try simp only [Act.put, List.setIfInBounds_toArray, List.set_cons_zero, List.set_cons_succ]
        clear hSd
        refine wpAnyD_one (i := 5) (o := ⟨_, _, _, _, _, _⟩) (by kernel_rfl) (by decide) rfl (fun nD K hK0 => ?_)
        have hK := Lib.hid hK0
        clear hK0
        have FD1 := Lib.hid (FD0.out.drew nD)
        generalize w3.drew.drewN nD = w7 at *
        have HUS1 := Lib.hid (HUS.out w7 FD1.out.below)
        clear HUS FD0
        go_simp
        refine HUS1.out.mono ?_
        rintro e w8 ⟨rfl, b8⟩
        have F8 := Lib.hid (FD1.out.call b8)
        clear b8 HUS1 FD1
        refine hK.out _ _ F8.out.cells ?_
        clear hK K
        have hSd := F8.out.cells
        try simp only [Act.put, List.setIfInBounds_toArray, List.set_cons_zero, List.set_cons_succ]
        refine wpAnyD_take (i := 6) (oi := ⟨_, _, _, _, _, _⟩) (v := ?_) rfl (by kernel_rfl) (by kernel_rfl) (by kernel_rfl) (by kernel_rfl) (fun _ _ _ h => h) (fun _ _ h => h) (Or.inl (Or.inl ⟨by rfl, ?_⟩)) hSd ?_
        rotate_left
        · intro W hSw; (try dsimp only at hSw); first | (go_simp; done) | (go_simp; with_reducible rfl)
        try simp only [Act.put, List.setIfInBounds_toArray, List.set_cons_zero, List.set_cons_succ]
        refine wpAnyD_last (by kernel_rfl) (fun nD => ?_)
        refine wpOp_one rfl (by rfl) ?_
        have F9 := Lib.hid (F8.out.drew nD)
        clear hSd
        generalize w8.drewN nD = w9 at *
        clear F8 HT
        go_simp
        obtain ⟨q0, q1, q2, q3, q4, q5, q6⟩ := F9.out.cells
        have fq := F9.out.free
        go_wp2_with fail
        refine (HST.out w9).mono ?_
        rintro e w0 ⟨rfl, b0⟩
        have F3 := Lib.hid (F9.out.call b0)
        clear b0 q0 q1 q2 q3 q4 q5 q6 fq
        obtain ⟨q0, q1, q2, q3, q4, q5, q6⟩ := F3.out.cells
        have fq := F3.out.free
        go_upto_region 9 with fail
        obtain ⟨w6, hW⟩ : ∃ x, ((((((w0.setCell ⟨w.heap.size, 0, none⟩ (.slice (some ⟨g2, o2, none⟩) s.files.length cf)).setCell ⟨w.heap.size, 1, none⟩ (.slice an s.now.length cn)).setCell ⟨w.heap.size, 2, none⟩ (.slice az s.sure.length cs)).setCell ⟨w.heap.size, 3, none⟩ (.slice aa s.acts.length ca)).setCell ⟨w.heap.size, 4, none⟩ (.int .i64 (s.room : Int))).setCell ⟨w.heap.size, 5, none⟩ (.int .i64 ((tick s).steps : Int))).setCell ⟨w.heap.size, 6, none⟩ (.int .i64 (lim (tick s))) = x := ⟨_, rfl⟩
        rw [hW]
        have ht := F3.out.put hW
        have F4 := Lib.hid ht.1
        have P4 := Lib.hid ht.2
        clear hW ht q0 q1 q2 q3 q4 q5 q6 fq
        have FD := Lib.hid (F4.out.drew 1)
        have hwd : w6.drewN 1 = w6.drew := rfl
        rw [hwd] at FD
        clear hwd
        have HR4 := Lib.hid (HH.out.kept (S' := S) (w' := w6.drew) (fun k hk => ⟨hk, FD.out.below.block k (HS.out k hk)⟩))
        have HFL := Lib.hid (rput_any S (some ⟨g2, o2, none⟩) an az aa cf cn cs ca (s.room : Int) ((tick s).steps : Int) (lim (tick s)) s i ⟨d ++ b, u⟩ w6.drew HR4.out (fun k hk => Nat.lt_of_lt_of_le (HS.out k hk) FD.out.below.size) hif (by have h1 := HB.out.fl; have h2 := HB.out.st; omega))
        unfold fsV at HFL
        dsimp only at HFL
        have d0 := HC0.out _ FD.out.below
        have d1 := HC1.out _ FD.out.below
        have hm1 : ¬ (9223372036854775807 < d.length + b.length) := by omega
        obtain ⟨q0, q1, q2, q3, q4, q5, q6⟩ := FD.out.cells
        have fq := FD.out.free
        go_upto_region 9 with fail
        go_still_tail 17, (by kernel_rfl)
        change wpList _ _ _ _ _ w6.drew
        generalize w6.drew = w4 at *
        clear d0 d1 q0 q1 q2 q3 q4 q5 q6 fq
        go_wp2_with fail
        refine HFL.out.mono ?_
        rintro e w5 ⟨vf, rfl, R5, b5⟩
        obtain ⟨z5, k5, rfl⟩ := CellsC.shape R5.files
        obtain ⟨m5, hm5⟩ : ∃ q, (s.files.set i ⟨d ++ b, u⟩).length = q := ⟨_, rfl⟩
        dsimp only at R5 ⊢
        rw [hm5] at R5 ⊢
        clear hm5
        have HR5 := Lib.hid R5
        have F5 := Lib.hid (FD.out.call b5)
        have ZB5 := Lib.hid b5.size
        have Z5 := Lib.hid FD.out.below.size
        clear b5 R5 HFL
        obtain ⟨r0, r1, r2, r3, r4, r5, r6⟩ := F5.out.rcells
        have fr := F5.out.rfree
        go_wp2_with fail
        obtain ⟨W, hW⟩ : ∃ x, ((((((w5.setCell ⟨w.heap.size + 1, 0, none⟩ (.slice z5 m5 k5)).setCell ⟨w.heap.size + 1, 1, none⟩ (.slice an s.now.length cn)).setCell ⟨w.heap.size + 1, 2, none⟩ (.slice az s.sure.length cs)).setCell ⟨w.heap.size + 1, 3, none⟩ (.slice aa s.acts.length ca)).setCell ⟨w.heap.size + 1, 4, none⟩ (.int .i64 (s.room : Int))).setCell ⟨w.heap.size + 1, 5, none⟩ (.int .i64 ((tick s).steps : Int))).setCell ⟨w.heap.size + 1, 6, none⟩ (.int .i64 (lim (tick s))) = x := ⟨_, rfl⟩
        rw [hW]
        obtain ⟨hX, hP, hBe⟩ := F5.out.fin hW
        have PW := Lib.hid hP
        have BW := Lib.hid hBe
        clear hW hP hBe  r0 r1 r2 r3 r4 r5 r6 fr
        obtain ⟨q0, q1, q2, q3, q4, q5, q6⟩ := hX.cells
        clear hX
        refine bodyPost_ret (v := .tuple #[.agg #[.slice z5 m5 k5, .slice an s.now.length cn, .slice az s.sure.length cs, .slice aa s.acts.length ca, .int .i64 (s.room : Int), .int .i64 ((tick s).steps : Int), .int .i64 (lim (tick s))], .int .i64 0]) (by simp [results, Tryz.results26, go_sem, q0, q1, q2, q3, q4, q5, q6]) rfl ⟨_, rfl, ⟨⟨_, _, _, _, rfl, ?_⟩⟩, BW.out⟩
        have hz := PW.out.size
        have hz4 := Z5.out
        have hlt := FD.out.lt
        have hz5 := ZB5.out
        have hK : ∀ k, (S k ∨ (w4.heap.size ≤ k ∧ k < w5.heap.size)) → (S k ∨ (w.heap.size ≤ k ∧ k < W.heap.size)) ∧ W.heap[k]? = w5.heap[k]? := fun k hk => by
          rcases hk with hk | hk
          · have h1 := HS.out k hk
            exact ⟨Or.inl hk, PW.out.far k (by omega)⟩
          · exact ⟨Or.inr ⟨by omega, by omega⟩, PW.out.far k (by omega)⟩
        have h := HR5.out.kept hK
        exact ⟨h.files, h.now, h.sure, h.acts⟩
end Go.Proofs.YtjefcalndfcmdaaGreatDoor
