/- The walk of a crash. -/
import Derived.Test.YtjefcalndfcmdaaGreatDoorVfM
namespace Go.Proofs.YtjefcalndfcmdaaGreatDoor
open Go.RowKit Go.Maps
attribute [local go_sem ↓] Go.wp_at_zero Go.wp_at_succ
def CrashP (B : Nat) (X : FsX) (w : World) (bf : Nat) (s' : Fs) (e : Ending) (w' : World) : Prop := e = .returned (.tuple #[]) ∧ ∃ X', FsAt B X' w' bf s' ∧ FsUp B X w X' w'
set_option maxRecDepth 100000 in
set_option maxHeartbeats 4000000 in
theorem crash_any {B : Nat} {X : FsX} {w : World} {bf : Nat} {s : Fs} (h : FsAt B X w bf s) (ok : FsOk s) (hs : s.steps ≤ 16777214) (ca cb : Int) :
    Calls Tryz.prog 15 #[.pointer (some ⟨bf, 0, none⟩), .int .i64 ca, .int .i64 cb] w (CrashP B X w bf (crashS s ca cb)) := by
  have H := Lib.hid h
  have OK := Lib.hid ok
  obtain ⟨_, _, _, _, c4, _, _⟩ := h.cells
  obtain ⟨sa, sc, hva⟩ : ∃ sa sc, X.va = .slice sa s.acts.length sc := by
    rcases h.row.2 with ⟨e1, e2⟩ | ⟨g, cap, cur, e1, _⟩
    · exact ⟨none, 0, by rw [e1]; congr 1; exact e2.symm⟩
    · exact ⟨_, _, e1⟩
  rw [hva] at c4
  have HS := Lib.hid (settle_any (n := clampI ca s.acts.length) h (fun k hk => (ok.dirs k hk).rise) ok.lens (by omega) (clampI_le _ _))
  clear h ok hva
  obtain ⟨al, hal⟩ : ∃ n, s.acts.length = n := ⟨_, rfl⟩
  have HAL := Lib.hid hal
  rw [hal] at c4 HS
  clear hal
  go_enter Tryz.func15, Tryz.ntmps15
  go_wp2_with fail
  refine (within_any ca al w).mono ?_
  rintro e w' ⟨rfl, rfl⟩
  go_wp2_with fail
  refine HS.out.mono ?_
  rintro e w1 ⟨rfl, X1, h1, f1, t1, e1, e2⟩
  obtain ⟨d, hd⟩ : ∃ d, doAll s.sure (s.acts.take (clampI ca s.acts.length)) = d := ⟨_, rfl⟩
  have HD := Lib.hid hd
  have HDO : Hid (DirOk s.files.length d) := Lib.hid (by rw [← hd]; exact OK.out.dirs _ (clampI_le _ _))
  have H1 : Hid (FsAt B X1 w1 bf (flushD s (clampI ca al))) := Lib.hid h1
  have F1 := Lib.hid f1
  have T1 := Lib.hid t1
  have E1 := Lib.hid e1
  have hsd : (flushD s (clampI ca al)).sure = d := by rw [← HAL.out]; exact hd
  have M1 : Hid (MapAt w1 X1.bd X1.nd X1.Dd X1.fb d) := Lib.hid (by rw [← hsd]; exact h1.md)
  have HSD := Lib.hid hsd
  clear h1 f1 t1 e1 e2 hd hsd c4 HS
  obtain ⟨_, _, _, d3, _, _, _⟩ := H1.out.cells
  have fr2 := H1.out.free 2
  have HCL := Lib.hid (AnyW.maps_Clone_owns Tryz.cloneM38 9 ptrR X1.bd X1.nd X1.Dd w1 M1.out.own)
  go_wp2_with fail
  refine HCL.out.mono ?_
  rintro e w2 ⟨rfl, own2, _, b2⟩
  have B2 := Lib.hid b2
  have M2 : Hid (MapAt w2 w1.heap.size X1.nd X1.Dd X1.fb d) := Lib.hid ⟨own2, M1.out.tidy, M1.out.at_⟩
  have H2 := Lib.hid (H1.out.below b2)
  have NB := Lib.hid own2.lt
  clear own2 b2 HCL d3 fr2
  obtain ⟨nb, hnb⟩ : ∃ n, w1.heap.size = n := ⟨_, rfl⟩
  have HNB := Lib.hid hnb
  rw [hnb] at B2 M2 NB ⊢
  clear hnb
  have q2 := H2.out.cells.2.2.1
  have fr1 := H2.out.free 1
  have fr2 := H2.out.free 2
  have q1 := H2.out.cells.2.1
  go_upto_region 3 with fail
  clear q2 fr1 fr2 q1
  have hbn : bf ≠ nb := fun e => by have := H1.out.bfB.2; have := HNB.out; omega
  have hs3 : ∀ q, q ≠ bf → ((w2.setCell ⟨bf, 2, none⟩ (.map (some nb))).setCell ⟨bf, 1, none⟩ (.int .i64 0)).heap[q]? = w2.heap[q]? := fun q hq => by
    rw [Below.heap_setCell _ _ _ q hq, Below.heap_setCell _ _ _ q hq]
  have hb3 : ((w2.setCell ⟨bf, 2, none⟩ (.map (some nb))).setCell ⟨bf, 1, none⟩ (.int .i64 0)).heap[bf]? = some (.cells #[.int .i64 (s.room : Int), .int .i64 0, .map (some nb), .map (some X1.bd), X1.va, .int .i64 (stV s), .int .i64 s.more] 62 (0, 0)) := by
    rw [cells_set (cells_set H2.out.blk _) _]; rfl
  have F3 := Lib.hid ((Far.alone (P := fun q => q = bf) (Alone.set bf 2 w2 (.map (some nb))) rfl).trans (Far.alone (P := fun q => q = bf) (Alone.set bf 1 _ (.int .i64 0)) rfl))
  have HB3 := Lib.hid hb3
  have HS3 := Lib.hid hs3
  have hsz3 : ((w2.setCell ⟨bf, 2, none⟩ (.map (some nb))).setCell ⟨bf, 1, none⟩ (.int .i64 0)).heap.size = w2.heap.size := by simp
  clear hb3 hs3
  generalize (w2.setCell ⟨bf, 2, none⟩ (.map (some nb))).setCell ⟨bf, 1, none⟩ (.int .i64 0) = w3 at *
  have M3 := Lib.hid (M2.out.kept (HS3.out nb (fun e => hbn e.symm)))
  have hbf3 : bf < w3.heap.size := by have := H2.out.bfB.2; omega
  have hnb3 : nb < w3.heap.size := by have := NB.out; omega
  have q2 : w3.cell? ⟨bf, 2, none⟩ = some (.map (some nb)) := (cell_of_row _ _ _ _ _ _ HB3.out).trans rfl
  have HSZ3 := Lib.hid hsz3
  clear hsz3
  have hown3 := Lib.hid M3.out.own
  go_wp2_with (at_range; refine wpList_range_own _ rfl _ 59 rfl 9 75 keyLaw Tryz.underlying59 ptrR nb X1.nd X1.Dd rfl hown3.out ?_; intro w4 hrg4 hg4 hs4; have RG4 := Lib.hid hrg4; have G4 := Lib.hid hg4; have Z4 := Lib.hid hs4; clear hrg4 hg4 hs4; go_frame)
  obtain ⟨r, hr⟩ : ∃ n, w3.heap.size = n := ⟨_, rfl⟩
  have HRR := Lib.hid hr
  rw [hr] at RG4 ⊢
  rw [hr] at hbf3 hnb3
  clear hr q2
  go_loopw [7] (fun _ wr => ∃ (left : Lit → Bool) (cnt : Nat) (dvF : Nat → Value), Hid (wr.ranges Tryz.prog 9 ptrR nb r X1.nd X1.Dd left cnt) ∧
      Hid (wr.heap[bf]? = some (.cells #[.int .i64 (s.room : Int), .int .i64 (doneU cb left s.files d : Int), .map (some nb), .map (some X1.bd), X1.va, .int .i64 (stV s), .int .i64 s.more] 62 (0, 0))) ∧
      Hid (∀ p ∈ d, wr.heap[X1.fb p.2]? = some (.cells #[dvF p.2, .int .i64 ((stageF cb left s.files p).dur : Int)] 78 (0, 0)) ∧ RowM wr B (dvF p.2) (bv (stageF cb left s.files p).data) ∧ ∀ k, (dvF p.2).ownBlock = some k → (X1.dv p.2).ownBlock = some k) ∧
      Hid (Far (fun q => q = bf ∨ q = r ∨ ∃ i, X1.T q = .file i) w3 wr)) (fun _ wr => wr.rangeLeft nb r)
  case atStart =>
    refine ⟨_, _, X1.dv, RG4, Lib.hid ?_, Lib.hid (fun p hp => ?_), Lib.hid ⟨G4.out.os, G4.out.tape, G4.out.output, G4.out.size, fun k hk _ => G4.out.block k hk (fun c => by cases c)⟩⟩
    · rw [doneU_start (fun p hp => has_name M3.out HDO.out.rise hp), G4.out.block bf (by have := HRR.out; omega) (fun c => by cases c)]
      exact HB3.out
    · have hl : Live (flushD s (clampI ca al)) p.2 := Or.inl ⟨p, by rw [HSD.out]; exact hp, rfl⟩
      have hf := H2.out.fil p.2 hl
      have hst : stageF cb (Maps.has X1.Dd) s.files p = s.files.getD p.2 noFi := by unfold stageF; rw [if_pos (has_name M3.out HDO.out.rise hp)]
      have hk : ∀ q, X1.T q ≠ .fs → q < w2.heap.size → w4.heap[q]? = w2.heap[q]? := fun q h1 h2 => by
        rw [G4.out.block q (by have := HSZ3.out; omega) (fun c => by cases c)]
        exact HS3.out q (fun e => h1 (by rw [e]; exact H2.out.tf))
      have hd1 := H2.out.dom (X1.fb p.2) (by rw [hf.tb]; exact fun c => by cases c)
      rw [hst]
      refine ⟨(hk _ (by rw [hf.tb]; exact fun c => by cases c) hd1.2).trans hf.blk, hf.row.kept (by have := G4.out.size; have := HSZ3.out; omega) (fun k e => hk k (by rw [hf.tv k e]; exact fun c => by cases c) (H2.out.dom k (by rw [hf.tv k e]; exact fun c => by cases c)).2), fun k e => e⟩
  case round =>
    obtain ⟨left, cnt, dvF, hrg, hbr, hfl, hF⟩ := hrel
    go_wp2_with (at_next; refine wpList_next_ranges _ rfl _ rfl 9 keyLaw ptrR mkK mkV (fun key kl hk => by obtain ⟨x, e, _⟩ := keyOf_str_inv hk; exact ⟨x, e⟩) (fun v y hv => ptrR_inv hv) nb r X1.nd X1.Dd left cnt rfl hrg.out ?_ ?_)
    · intro _ hl0
      have HL0 := Lib.hid hl0
      clear hl0
      have c6 : wr.cell? ⟨bf, 6, none⟩ = some (.int .i64 s.more) := (cell_of_row _ _ _ _ _ _ hbr.out).trans rfl
      have fr6 : wr.frozen? ⟨bf, 6, none⟩ = false := frozen_box hbr.out 6
      go_wp2_with fail
      go_end0
      have hsF : ∀ q, q ≠ bf → (wr.setCell ⟨bf, 6, none⟩ (.int .i64 (-1))).heap[q]? = wr.heap[q]? := fun q hq => Below.heap_setCell _ _ _ q hq
      have hzw1 : w1.heap.size = nb := HNB.out
      have hz2 := B2.out.size
      have hz3 := HSZ3.out
      have hz4 := HRR.out
      have hzF := hF.out.size
      have hde := doneU_end (b := cb) HL0.out (fun p hp => HDO.out.lt p hp)
      have FF : Far (fun q => q = bf ∨ w1.heap.size ≤ q ∨ ∃ i, X1.T q = .file i) w1 (wr.setCell ⟨bf, 6, none⟩ (.int .i64 (-1))) := by
        have a1 : Far (fun q => q = bf ∨ w1.heap.size ≤ q ∨ ∃ i, X1.T q = .file i) w1 w2 := ⟨B2.out.os, B2.out.tape, B2.out.output, B2.out.size, fun k hk _ => B2.out.block k (by omega)⟩
        have a2 := F3.out.mono (P' := fun q => q = bf ∨ w1.heap.size ≤ q ∨ ∃ i, X1.T q = .file i) (fun k hk => Or.inl hk)
        have a3 := hF.out.mono (P' := fun q => q = bf ∨ w1.heap.size ≤ q ∨ ∃ i, X1.T q = .file i) (fun k hk => by
          rcases hk with e | e | e
          · exact Or.inl e
          · right; left; omega
          · exact Or.inr (Or.inr e))
        exact ((a1.trans a2).trans a3).trans (Far.alone (Alone.set bf 6 wr _) (Or.inl rfl))
      obtain ⟨X', q1, q2⟩ := crash_fin (wF := wr.setCell ⟨bf, 6, none⟩ (.int .i64 (-1))) (nb := nb) (ca := ca) (cb := cb) (dvF := dvF) H1.out OK.out HD.out HSD.out rfl ⟨by omega, by simp; omega⟩ (by have := H1.out.baseB; omega)
        ⟨by
          have h1 := hrg.out.owns
          obtain ⟨es, clock, hb, F, hs, hD⟩ := h1
          exact ⟨es, clock, (hsF nb (fun e => hbn e.symm)).trans hb, F, hs, hD⟩, M3.out.tidy, M3.out.at_⟩
        (by rw [cells_set hbr.out _, ← hde]; rfl) rfl FF
        (fun p hp => by
          obtain ⟨a1, a2, a3⟩ := hfl.out p hp
          have hst : stageF cb left s.files p = cutF cb (s.files.getD p.2 noFi) := by unfold stageF; rw [if_neg (by rw [HL0.out]; decide)]
          rw [hst] at a1 a2
          have hf := H1.out.fil p.2 (Or.inl ⟨p, by rw [HSD.out]; exact hp, rfl⟩)
          refine ⟨(hsF _ (fun e => by have := hf.tb; rw [e, H1.out.tf] at this; cases this)).trans a1, a2.kept (by simp) (fun k e => hsF k (fun e2 => by have h3 := hf.tv k (a3 k e); rw [e2, H1.out.tf] at h3; cases h3)), a3⟩)
      refine ⟨rfl, X', q1, ?_⟩
      have u1 : FsUp B X w X1 w1 := FsUp.far_of F1.out (fun k e => by
        rcases e with e | e
        · rw [e, H.out.tf]; exact fun c => by cases c
        · rw [e, H.out.td]; exact fun c => by cases c) (fun k hk => (H.out.dom k hk).1) H.out.baseB T1.out
      refine u1.trans ⟨FF.below (fun k e => ?_) H1.out.baseB, fun k hk ht => FF.block k hk (fun e => ?_), q2⟩
      · rcases e with e | e | ⟨i, e⟩
        · rw [e]; exact H1.out.bfB.1
        · have := H1.out.baseB; omega
        · exact (H1.out.dom k (by rw [e]; exact fun c => by cases c)).1
      · rcases e with e | e | ⟨i, e⟩
        · rw [e, H1.out.tf] at ht; cases ht
        · omega
        · rw [e] at ht; cases ht
    · intro x c kl y1 y2 w5 cnt5 hkx hlx hy hat hrg5 hlt5 hg5 hs5 hen
      obtain ⟨x', ex, rfl⟩ := keyOf_str_inv hkx
      obtain rfl : x = x' := by unfold mkK at ex; injection ex with ex; injection ex with ex; simpa using congrArg Array.toList ex
      obtain ⟨i, hmem, rfl⟩ := entry_of M3.out (y := (y1, y2)) hy hat
      have HME := Lib.hid hmem
      have HLX := Lib.hid hlx
      have HRG5 := Lib.hid hrg5
      have HLT5 := Lib.hid hlt5
      have hf := H1.out.fil i (Or.inl ⟨(x, i), by rw [HSD.out]; exact hmem, rfl⟩)
      have HTB := Lib.hid hf.tb
      have HTV := Lib.hid hf.tv
      obtain ⟨a1, a2, a3⟩ := hfl.out (x, i) hmem
      have hst : stageF cb left s.files (x, i) = s.files.getD i noFi := by unfold stageF; rw [if_pos hlx]
      rw [hst] at a1 a2
      have A3 := Lib.hid a3
      have hne : X1.fb i ≠ bf := fun e => by have := hf.tb; rw [e, H1.out.tf] at this; cases this
      have hfbl : X1.fb i < w1.heap.size := (H1.out.dom _ (by rw [hf.tb]; exact fun c => by cases c)).2
      have hzw1 : w1.heap.size = nb := HNB.out
      have hz2 := B2.out.size
      have hz3 := HSZ3.out
      have hz4 := HRR.out
      have hzF := hF.out.size
      have hk5 : ∀ q, q < wr.heap.size → q ≠ r → w5.heap[q]? = wr.heap[q]? := fun q h1 h2 => hg5.block q h1 (fun e => h2 (by injection e))
      have hbf5 : w5.heap[bf]? = _ := (hk5 bf (by omega) (by omega)).trans hbr.out
      have hfb5 : w5.heap[X1.fb i]? = some (.cells #[dvF i, .int .i64 ((s.files.getD i noFi).dur : Int)] 78 (0, 0)) := (hk5 _ (by omega) (by omega)).trans a1
      have hrw5 : RowM w5 B (dvF i) (bv (s.files.getD i noFi).data) := a2.kept hg5.size (fun k e => by
        have h3 := (H1.out.dom k (by rw [hf.tv k (a3 k e)]; exact fun c => by cases c)).2
        exact hk5 k (by omega) (by omega))
      have F5 : Hid (Far (fun q => q = bf ∨ q = r ∨ ∃ i, X1.T q = .file i) w3 w5) := Lib.hid (hF.out.trans ⟨hg5.os, hg5.tape, hg5.output, hg5.size, fun k hk hn => hk5 k hk (fun e => hn (Or.inr (Or.inl e)))⟩)
      have K5 := Lib.hid hk5
      have BF5 := Lib.hid hbf5
      have FB5 := Lib.hid hfb5
      have RW5 := Lib.hid hrw5
      obtain ⟨fa, fc, hdv⟩ := hrw5.shape
      rw [bv_len] at hdv
      have HDAT : Hid ((s.files.getD i noFi).dur ≤ (s.files.getD i noFi).data.length ∧ (s.files.getD i noFi).data.length ≤ 4194304) := Lib.hid (OK.out.dat _ (getD_mem (HDO.out.lt _ hmem)))
      obtain ⟨n0, hn0⟩ : ∃ n, (s.files.getD i noFi).dur = n := ⟨_, rfl⟩
      obtain ⟨m, hm0⟩ : ∃ n, (s.files.getD i noFi).data.length = n := ⟨_, rfl⟩
      have HN0 := Lib.hid hn0
      have HM0 := Lib.hid hm0
      rw [hm0] at hdv
      have HDV := Lib.hid hdv
      obtain ⟨hnm, hml⟩ : n0 ≤ m ∧ m ≤ 4194304 := by have := HDAT.out; rw [hn0, hm0] at this; exact this
      have hen2 : (Instr.entry (.pointer (some ⟨r, 0, none⟩))).run Tryz.prog w5 = .ok (.tuple #[.string ⟨x.toArray⟩, .pointer (some ⟨X1.fb i, 0, none⟩)]) w5 := hen
      clear hen hn0 hm0 hdv a1 a2 a3 hst hf hk5 hbf5 hfb5 hrw5 hg5 hrg5 hlt5 hlx hmem hy hat hkx ex hbr
      rw [show mkK x = .string ⟨x.toArray⟩ from rfl, show mkV (some (X1.fb i)) = .pointer (some ⟨X1.fb i, 0, none⟩) from rfl]
      go_upto_region 6 with fail
      obtain ⟨k0, hk0⟩ : ∃ k, m = n0 + k := ⟨m - n0, by omega⟩
      have HK0 := Lib.hid hk0
      have hcl := clampI_le cb k0
      have HWI := Lib.hid (within_any cb k0 w5.drew)
      obtain ⟨c0, hc0⟩ : ∃ c, clampI cb k0 = c := ⟨_, rfl⟩
      have HC0 := Lib.hid hc0
      rw [hc0] at HWI hcl
      obtain ⟨e0, he0⟩ : ∃ e, n0 + c0 = e := ⟨_, rfl⟩
      have HE0 := Lib.hid he0
      have he1 : e0 ≤ m := by omega
      have hw1 : IntKind.i64.wrap ((m : Int) - (n0 : Int)) = (k0 : Int) := by
        rw [show ((m : Int) - (n0 : Int)) = (k0 : Int) by omega]
        exact IntWalk.i64_in _ (by omega)
      have hw2 : IntKind.i64.wrap ((n0 : Int) + (c0 : Int)) = (e0 : Int) := by
        rw [show ((n0 : Int) + (c0 : Int)) = (e0 : Int) by omega]
        exact IntWalk.i64_in _ (by omega)
      clear hk0 hc0 he0
      have fb6 : w5.drew.heap[X1.fb i]? = _ := FB5.out
      have t0 : w5.drew.cell? ⟨X1.fb i, 0, none⟩ = some (dvF i) := (cell_of_row _ _ _ _ _ _ fb6).trans rfl
      have t1 : w5.drew.cell? ⟨X1.fb i, 1, none⟩ = some (.int .i64 ((s.files.getD i noFi).dur : Int)) := (cell_of_row _ _ _ _ _ _ fb6).trans rfl
      rw [HDV.out] at t0
      rw [HN0.out] at t1
      clear fb6
      go_still_tail 18, (by kernel_rfl)
      still_call (HWI.out.mono (fun _ _ h => ⟨h.1, h.2.symm⟩))
      repeat still_step
      refine wpStill_nil ?_
      change wpList _ _ _ _ _ w5.drew
      have E6 : Hid (∀ q : Nat, w5.drew.heap[q]? = w5.heap[q]?) := Lib.hid (fun _ => rfl)
      have F6 : Hid (Far (fun q => q = bf ∨ q = r ∨ ∃ i, X1.T q = .file i) w3 w5.drew) := Lib.hid (F5.out.trans (Far.drewN _ w5 1))
      have Z6 : Hid (w5.drew.heap.size = w5.heap.size) := Lib.hid rfl
      have RW6 : Hid (RowM w5.drew B (dvF i) (bv (s.files.getD i noFi).data)) := Lib.hid (RW5.out.kept (Nat.le_refl _) (fun _ _ => rfl))
      generalize w5.drew = w6 at *
      clear t0 t1 hw1 hw2 HWI
      have HNE := Lib.hid hne
      have HCUT := Lib.hid (fcut_any (B := B) (n := e0) (l := (s.files.getD i noFi).data) ((E6.out _).trans FB5.out) RW6.out (by rw [HM0.out]; exact he1) HDAT.out.2 (fun q e e2 => by
        have h3 := HTV.out q (A3.out q e)
        rw [e2, HTB.out] at h3; cases h3))
      go_wp2_with fail
      refine HCUT.out.mono ?_
      rintro e w7 ⟨rfl, v7, hb7, hr7, ho7, al7⟩
      have B7 := Lib.hid hb7
      have R7 := Lib.hid hr7
      have O7 := Lib.hid ho7
      have A7 := Lib.hid al7
      have hlen7 : ((s.files.getD i noFi).data.take e0).length = e0 := by rw [List.length_take, HM0.out]; omega
      obtain ⟨xa, xc, hv7⟩ := hr7.shape
      rw [bv_len, hlen7] at hv7
      have HV7 := Lib.hid hv7
      have HL7 := Lib.hid hlen7
      have Q7 := Lib.hid ((al7.block bf (by have := F6.out.size; omega) (fun e => hne e.symm)).trans ((E6.out bf).trans BF5.out))
      clear hb7 hr7 ho7 al7 HCUT hlen7 hv7
      go_upto_region 7 with fail
      obtain ⟨u, hu⟩ : ∃ u, doneU cb left s.files d = u := ⟨_, rfl⟩
      have HU := Lib.hid hu
      have hub : u ≤ 70368744177664 := by
        rw [← hu]
        refine Nat.le_trans (doneU_le (fun f hf => OK.out.dat f hf)) ?_
        have h1 : d.length ≤ s.steps := by rw [← HD.out]; exact (crashS_ok OK.out ca cb).nowLen
        have h2 : d.length * 4194304 ≤ 16777214 * 4194304 := Nat.mul_le_mul_right _ (Nat.le_trans h1 hs)
        omega
      have hw3 : IntKind.i64.wrap ((u : Int) + (e0 : Int)) = (u : Int) + (e0 : Int) := IntWalk.i64_in _ (by omega)
      have bf8 : w7.drew.heap[bf]? = _ := Q7.out
      have fb8 : w7.drew.heap[X1.fb i]? = _ := B7.out
      have t1 : w7.drew.cell? ⟨bf, 1, none⟩ = some (.int .i64 (doneU cb left s.files d : Int)) := (cell_of_row _ _ _ _ _ _ bf8).trans rfl
      have t0 : w7.drew.cell? ⟨X1.fb i, 0, none⟩ = some v7 := (cell_of_row _ _ _ _ _ _ fb8).trans rfl
      have tf : w7.drew.frozen? ⟨bf, 1, none⟩ = false := frozen_box bf8 1
      rw [HV7.out] at t0
      rw [hu] at t1
      clear hu bf8 fb8
      go_still_tail 12, (by kernel_rfl)
      change wpList _ _ _ _ _ w7.drew
      have E8 : Hid (∀ q : Nat, w7.drew.heap[q]? = w7.heap[q]?) := Lib.hid (fun _ => rfl)
      have A8 : Hid (Alone bf w7 w7.drew) := Lib.hid (Alone.drewN bf w7 1)
      generalize w7.drew = w8 at *
      go_wp2_with fail
      clear t0 t1 tf hw3
      have hset : ∀ q, q ≠ bf → (w8.setCell ⟨bf, 1, none⟩ (.int .i64 ((u : Int) + (e0 : Int)))).heap[q]? = w7.heap[q]? := fun q hq => (Below.heap_setCell _ _ _ q hq).trans (E8.out q)
      have hz7 := A7.out.size
      have hz8 := A8.out.size
      have hz6 := Z6.out
      have hz5 := HSZ3.out
      have hz56 := F5.out.size
      have hTnb : ∀ q, w1.heap.size ≤ q → q ≠ X1.fb i := fun q hq e => by omega
      have hall : ∀ q, q < w5.heap.size → q ≠ bf → q ≠ X1.fb i → (w8.setCell ⟨bf, 1, none⟩ (.int .i64 ((u : Int) + (e0 : Int)))).heap[q]? = w5.heap[q]? := fun q h1 h2 h3 => by
        rw [hset q h2, A7.out.block q (by omega) h3, E6.out q]
      have hdr : (cutF cb (s.files.getD i noFi)).dur = e0 ∧ (cutF cb (s.files.getD i noFi)).data = (s.files.getD i noFi).data.take e0 := by
        have h1 : (s.files.getD i noFi).data.length - (s.files.getD i noFi).dur = k0 := by rw [HM0.out, HN0.out]; have := HK0.out; omega
        unfold cutF
        rw [h1, HC0.out, HN0.out, HE0.out]
        exact ⟨rfl, rfl⟩
      have hxl : ∀ q ∈ d, q ≠ (x, i) → stageF cb (fun z => left z && !z.sameKey (.string x)) s.files q = stageF cb left s.files q := fun q hq hn => by
        have hne1 : q.1 ≠ x := fun e => hn (by
          have h1 := mem_fnd HDO.out.rise (show (x, i) ∈ d from HME.out)
          have h2 := mem_fnd HDO.out.rise (show (q.1, q.2) ∈ d from hq)
          rw [e, h1] at h2
          injection h2 with h2
          rw [← e, h2])
        show (if (left (.string q.1) && !(Lit.string q.1).sameKey (.string x)) = true then s.files.getD q.2 noFi else cutF cb (s.files.getD q.2 noFi)) = stageF cb left s.files q
        rw [sameKey_str, decide_eq_false hne1]
        simp [stageF]
      refine ⟨⟨fun z => left z && !z.sameKey (.string x), cnt5, fun j => if j = i then v7 else dvF j, ?_, ?_, ?_, ?_⟩, ?_⟩
      · exact Lib.hid (ranges_kept HRG5.out (hall nb (by omega) (fun e => hbn e.symm) (hTnb nb (by omega))) (hall r (by have := HRG5.out.lt; omega) (fun e => by omega) (hTnb r (by omega))))
      · refine Lib.hid ?_
        rw [cells_set ((E8.out bf).trans Q7.out) _, doneU_step HDO.out.rise HME.out HLX.out, HU.out, hdr.2, HL7.out]
        push_cast
        rfl
      · refine Lib.hid (fun q hq => ?_)
        by_cases e : q = (x, i)
        · subst e
          have hst2 : stageF cb (fun z => left z && !z.sameKey (.string x)) s.files (x, i) = cutF cb (s.files.getD i noFi) := by
            show (if (left (.string x) && !(Lit.string x).sameKey (.string x)) = true then s.files.getD i noFi else cutF cb (s.files.getD i noFi)) = cutF cb (s.files.getD i noFi)
            rw [sameKey_str, decide_eq_true rfl]
            simp
          rw [hst2, hdr.1, hdr.2]
          show (w8.setCell ⟨bf, 1, none⟩ (.int .i64 ((u : Int) + (e0 : Int)))).heap[X1.fb i]? = some (.cells #[if i = i then v7 else dvF i, .int .i64 (e0 : Int)] 78 (0, 0)) ∧ RowM (w8.setCell ⟨bf, 1, none⟩ (.int .i64 ((u : Int) + (e0 : Int)))) B (if i = i then v7 else dvF i) (bv ((s.files.getD i noFi).data.take e0)) ∧ ∀ k, (if i = i then v7 else dvF i).ownBlock = some k → (X1.dv i).ownBlock = some k
          rw [if_pos rfl]
          refine ⟨(hset _ HNE.out).trans B7.out, R7.out.kept (by simp; omega) (fun k e => hset k (fun e2 => ?_)), fun k e => A3.out k (O7.out k e)⟩
          have h3 := HTV.out k (A3.out k (O7.out k e))
          rw [e2, H1.out.tf] at h3; cases h3
        · have hqi : q.2 ≠ i := fun e2 => e (HDO.out.inj q hq (x, i) HME.out e2)
          rw [hxl q hq e]
          obtain ⟨b1, b2, b3⟩ := hfl.out q hq
          have hf := H1.out.fil q.2 (Or.inl ⟨q, by rw [HSD.out]; exact hq, rfl⟩)
          have hbq : X1.fb q.2 < w1.heap.size := (H1.out.dom _ (by rw [hf.tb]; exact fun c => by cases c)).2
          have hn1 : X1.fb q.2 ≠ bf := fun e2 => by have := hf.tb; rw [e2, H1.out.tf] at this; cases this
          have hn2 : X1.fb q.2 ≠ X1.fb i := fun e2 => by have := hf.tb; rw [e2, HTB.out] at this; injection this with this; exact hqi this.symm
          show (w8.setCell ⟨bf, 1, none⟩ (.int .i64 ((u : Int) + (e0 : Int)))).heap[X1.fb q.2]? = some (.cells #[if q.2 = i then v7 else dvF q.2, _] 78 (0, 0)) ∧ RowM (w8.setCell ⟨bf, 1, none⟩ (.int .i64 ((u : Int) + (e0 : Int)))) B (if q.2 = i then v7 else dvF q.2) _ ∧ ∀ k, (if q.2 = i then v7 else dvF q.2).ownBlock = some k → (X1.dv q.2).ownBlock = some k
          rw [if_neg hqi]
          refine ⟨(hall _ (by omega) hn1 hn2).trans ((K5.out _ (by omega) (by omega)).trans b1), b2.kept (by simp; omega) (fun k e2 => ?_), b3⟩
          have h3 := hf.tv k (b3 k e2)
          have h4 := (H1.out.dom k (by rw [h3]; exact fun c => by cases c)).2
          exact (hall k (by omega) (fun e3 => by rw [e3, H1.out.tf] at h3; cases h3) (fun e3 => by rw [e3, HTB.out] at h3; cases h3)).trans (K5.out k (by omega) (by omega))
      · refine Lib.hid (((F6.out.trans (Far.alone A7.out (Or.inr (Or.inr ⟨i, HTB.out⟩)))).trans (Far.alone A8.out (Or.inl rfl))).trans (Far.alone (Alone.set bf 1 w8 _) (Or.inl rfl)))
      · have h1 := (ranges_kept HRG5.out (hall nb (by omega) (fun e => hbn e.symm) (hTnb nb (by omega))) (hall r (by have := HRG5.out.lt; omega) (fun e => by omega) (hTnb r (by omega)))).left_eq
        have h2 := hrg.out.left_eq
        rw [h1, h2]
        exact HLT5.out
end Go.Proofs.YtjefcalndfcmdaaGreatDoor
