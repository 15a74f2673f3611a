/- The walk of Fork. -/
import Derived.Test.YtjefcalndfcmdaaGreatDoorVhG
namespace Go.Proofs.YtjefcalndfcmdaaGreatDoor
open Go.RowKit Go.Maps
attribute [local go_sem ↓] Go.wp_at_zero Go.wp_at_succ
def ForkP (w : World) (s : Fs) (e : Ending) (w' : World) : Prop := ∃ X bg, e = .returned (.pointer (some ⟨bg, 0, none⟩)) ∧ FsAt w.heap.size X w' bg (forkS s) ∧ (∀ k, X.T k ≠ .no → w.heap.size ≤ k) ∧ Below w.heap.size w w'
set_option maxRecDepth 100000 in
set_option maxHeartbeats 8000000 in
theorem fork_any {B : Nat} {X : FsX} {w : World} {bf : Nat} {s : Fs} (h : FsAt B X w bf s) (ok : FsOk s) (hs : s.steps ≤ 16777214) :
    Calls Tryz.prog 14 #[.pointer (some ⟨bf, 0, none⟩)] w (ForkP w s) := by
  have H := Lib.hid h
  have OK := Lib.hid ok
  have HNL : Hid (s.now.length ≤ 16777214) := Lib.hid (Nat.le_trans ok.nowLen hs)
  have hmm := @run_makeMap Tryz.prog
  have hbB := h.bfB
  have hbn := h.dom X.bn (by rw [h.tn]; exact fun c => by cases c)
  clear h ok
  go_enter Tryz.func14, Tryz.ntmps14
  go_upto_region 1 with fail
  have HD1 := Lib.hid (H.out.drew 1)
  have hwd : w.drewN 1 = w.drew := rfl
  rw [hwd] at HD1
  clear hwd
  refine wp_region_D 11 (fun W => W.cell? ⟨bf, 0, none⟩ = some (.int .i64 (s.room : Int)) ∧ W.cell? ⟨bf, 1, none⟩ = some (.int .i64 (used s : Int))) (by kernel_rfl) (by kernel_rfl) (by kernel_rfl) ?_
  have hSd : w.drew.cell? ⟨bf, 0, none⟩ = some (.int .i64 (s.room : Int)) ∧ w.drew.cell? ⟨bf, 1, none⟩ = some (.int .i64 (used s : Int)) := ⟨HD1.out.cells.1, HD1.out.cells.2.1⟩
  refine wpAnyD_take (i := 0) (oi := ⟨_, _, _, _, _, _⟩) (v := ?_) rfl (by kernel_rfl) (by kernel_rfl) (by kernel_rfl) (by kernel_rfl) (fun _ _ _ h => h) (fun _ _ h => h) (Or.inl (Or.inl ⟨by rfl, ?_⟩)) hSd ?_
  rotate_left
  · intro W hSw; (try dsimp only at hSw); first | (go_simp; done) | (go_simp; with_reducible rfl)
  try simp only [Act.put, List.setIfInBounds_toArray, List.set_cons_zero, List.set_cons_succ]
  refine wpAnyD_take (i := 1) (oi := ⟨_, _, _, _, _, _⟩) (v := ?_) rfl (by kernel_rfl) (by kernel_rfl) (by kernel_rfl) (by kernel_rfl) (fun _ _ _ h => h) (fun _ _ h => h) (Or.inl (Or.inl ⟨by rfl, ?_⟩)) hSd ?_
  rotate_left
  · intro W hSw; (try dsimp only at hSw); first | (go_simp; done) | (go_simp; with_reducible rfl)
  try simp only [Act.put, List.setIfInBounds_toArray, List.set_cons_zero, List.set_cons_succ]
  refine wpAnyD_take (i := 2) (oi := ⟨_, _, _, _, _, _⟩) (v := ?_) rfl (by kernel_rfl) (by kernel_rfl) (by kernel_rfl) (by kernel_rfl) (fun _ _ _ h => h) (fun _ _ h => h) (Or.inl (Or.inl ⟨by rfl, ?_⟩)) hSd ?_
  rotate_left
  · intro W hSw; (try dsimp only at hSw); first | (go_simp; done) | (go_simp; with_reducible rfl)
  try simp only [Act.put, List.setIfInBounds_toArray, List.set_cons_zero, List.set_cons_succ]
  refine wpAnyD_take (i := 3) (oi := ⟨_, _, _, _, _, _⟩) (v := ?_) rfl (by kernel_rfl) (by kernel_rfl) (by kernel_rfl) (by kernel_rfl) (fun _ _ _ h => h) (fun _ _ h => h) (Or.inl (Or.inl ⟨by rfl, ?_⟩)) hSd ?_
  rotate_left
  · intro W hSw; (try dsimp only at hSw); first | (go_simp; done) | (go_simp; with_reducible rfl)
  try simp only [Act.put, List.setIfInBounds_toArray, List.set_cons_zero, List.set_cons_succ]
  refine wpAnyD_take (i := 4) (oi := ⟨_, _, _, _, _, _⟩) (v := ?_) rfl (by kernel_rfl) (by kernel_rfl) (by kernel_rfl) (by kernel_rfl) (fun _ _ _ h => h) (fun _ _ h => h) (Or.inl (Or.inl ⟨by rfl, ?_⟩)) hSd ?_
  rotate_left
  · intro W hSw; (try dsimp only at hSw); first | (go_simp; done) | (go_simp; with_reducible rfl)
  try simp only [Act.put, List.setIfInBounds_toArray, List.set_cons_zero, List.set_cons_succ]
  refine wpAnyD_take (i := 5) (oi := ⟨_, _, _, _, _, _⟩) (v := ?_) rfl (by kernel_rfl) (by kernel_rfl) (by kernel_rfl) (by kernel_rfl) (fun _ _ _ h => h) (fun _ _ h => h) (Or.inl (Or.inl ⟨by rfl, ?_⟩)) hSd ?_
  rotate_left
  · intro W hSw; (try dsimp only at hSw); first | (go_simp; done) | (go_simp; with_reducible rfl)
  try simp only [Act.put, List.setIfInBounds_toArray, List.set_cons_zero, List.set_cons_succ]
  refine wpAnyD_take (i := 6) (oi := ⟨_, _, _, _, _, _⟩) (v := ?_) rfl (by kernel_rfl) (by kernel_rfl) (by kernel_rfl) (by kernel_rfl) (fun _ _ _ h => h) (fun _ _ h => h) (Or.inl (Or.inl ⟨by rfl, ?_⟩)) hSd ?_
  rotate_left
  · intro W hSw; (try dsimp only at hSw); first | (go_simp; done) | (go_simp; with_reducible rfl)
  try simp only [Act.put, List.setIfInBounds_toArray, List.set_cons_zero, List.set_cons_succ]
  refine wpAnyD_take (i := 7) (oi := ⟨_, _, _, _, _, _⟩) (v := ?_) rfl (by kernel_rfl) (by kernel_rfl) (by kernel_rfl) (by kernel_rfl) (fun _ _ _ h => h) (fun _ _ h => h) (Or.inl (Or.inl ⟨by rfl, ?_⟩)) hSd ?_
  rotate_left
  · intro W hSw; (try dsimp only at hSw); first | (go_simp; done) | (go_simp; with_reducible rfl)
  try simp only [Act.put, List.setIfInBounds_toArray, List.set_cons_zero, List.set_cons_succ]
  clear hSd
  refine wpAnyD_one (i := 8) (o := ⟨_, _, _, _, _, _⟩) (by kernel_rfl) (by decide) rfl (fun nD K hK0 => ?_)
  have hK := Lib.hid hK0
  clear hK0
  have F1 : Hid (Below w.heap.size w (w.drew.drewN nD)) := Lib.hid ((drewn _ w 1).trans (drewn _ _ nD))
  have Z1 : Hid ((w.drew.drewN nD).heap.size = w.heap.size) := Lib.hid rfl
  generalize w.drew.drewN nD = w1 at *
  go_simp
  have MP := MapAt.made w1 (fun _ => 0)
  have B2 := Lib.hid (F1.out.alloc (Nat.le_of_eq Z1.out.symm) (.map #[] 0))
  have ZZ2 : (w1.alloc (.map #[] 0)).heap.size = w1.heap.size + 1 := by simp
  obtain ⟨w2, hw2⟩ : ∃ x, w1.alloc (.map #[] 0) = x := ⟨_, rfl⟩
  rw [hw2] at MP B2 ZZ2 ⊢
  rw [Z1.out] at MP ZZ2
  have MP2 := Lib.hid MP
  have HZ2 := Lib.hid ZZ2
  rw [Z1.out]
  clear hw2 MP ZZ2 F1 Z1
  have hH2 := Lib.hid (H.out.below B2.out)
  obtain ⟨nb, hnb⟩ : ∃ x, w.heap.size = x := ⟨_, rfl⟩
  have HNB := Lib.hid hnb
  rw [hnb] at MP2 HZ2 B2 hbB hbn ⊢
  clear hnb
  refine hK.out _ _ ⟨hH2.out.cells.1, hH2.out.cells.2.1⟩ ?_
  clear hK K
  try simp only [Act.put, List.setIfInBounds_toArray, List.set_cons_zero, List.set_cons_succ]
  have hSd : w2.cell? ⟨bf, 0, none⟩ = some (.int .i64 (s.room : Int)) ∧ w2.cell? ⟨bf, 1, none⟩ = some (.int .i64 (used s : Int)) := ⟨hH2.out.cells.1, hH2.out.cells.2.1⟩
  refine wpAnyD_take (i := 9) (oi := ⟨_, _, _, _, _, _⟩) (v := ?_) rfl (by kernel_rfl) (by kernel_rfl) (by kernel_rfl) (by kernel_rfl) (fun _ _ _ h => h) (fun _ _ h => h) (Or.inl (Or.inl ⟨by rfl, ?_⟩)) hSd ?_
  rotate_left
  · intro W hSw; (try dsimp only at hSw); first | (go_simp; done) | (go_simp; with_reducible rfl)
  try simp only [Act.put, List.setIfInBounds_toArray, List.set_cons_zero, List.set_cons_succ]
  clear hSd
  refine wpAnyD_one (i := 10) (o := ⟨_, _, _, _, _, _⟩) (by kernel_rfl) (by decide) rfl (fun nD K hK0 => ?_)
  have hK := Lib.hid hK0
  clear hK0
  have B3 := Lib.hid (B2.out.trans (drewn _ w2 nD))
  have MP3 := Lib.hid (MP2.out.kept (w' := w2.drewN nD) rfl)
  have HZ3 : Hid ((w2.drewN nD).heap.size = nb + 1) := HZ2
  generalize w2.drewN nD = w3 at *
  go_simp
  have NEW := new_five w3 #[.int .i64 (s.room : Int), .int .i64 (used s : Int), .map (some nb), .map none, .slice none 0 0, .int .i64 0, .int .i64 (-1)] 62
  have B4 := Lib.hid (B3.out.alloc (by rw [HZ3.out]; omega) (.cells #[.int .i64 (s.room : Int), .int .i64 (used s : Int), .map (some nb), .map none, .slice none 0 0, .int .i64 0, .int .i64 (-1)] 62))
  have MP4 := Lib.hid (MP3.out.kept (Below.heap_alloc w3 (.cells #[.int .i64 (s.room : Int), .int .i64 (used s : Int), .map (some nb), .map none, .slice none 0 0, .int .i64 0, .int .i64 (-1)] 62) nb (by rw [HZ3.out]; omega)))
  have ZZ4 : (w3.alloc (.cells #[.int .i64 (s.room : Int), .int .i64 (used s : Int), .map (some nb), .map none, .slice none 0 0, .int .i64 0, .int .i64 (-1)] 62)).heap.size = w3.heap.size + 1 := by simp
  obtain ⟨w4, hw4⟩ : ∃ x, w3.alloc (.cells #[.int .i64 (s.room : Int), .int .i64 (used s : Int), .map (some nb), .map none, .slice none 0 0, .int .i64 0, .int .i64 (-1)] 62) = x := ⟨_, rfl⟩
  rw [hw4] at NEW B4 MP4 ZZ4 ⊢
  rw [HZ3.out] at NEW ZZ4 ⊢
  have NEW4 := Lib.hid NEW
  have HZ4 := Lib.hid ZZ4
  clear hw4 NEW ZZ4 B3 MP3 HZ3 hH2 MP2 HZ2 B2
  have hH4 := Lib.hid (H.out.below (by rw [HNB.out]; exact B4.out))
  refine hK.out _ _ ⟨hH4.out.cells.1, hH4.out.cells.2.1⟩ ?_
  clear hK K
  try simp only [Act.put, List.setIfInBounds_toArray, List.set_cons_zero, List.set_cons_succ]
  refine wpAnyD_last (by kernel_rfl) (fun nD => ?_)
  refine wpOp_one rfl (by rfl) ?_
  have B5 := Lib.hid (B4.out.trans (drewn _ w4 nD))
  have MP5 := Lib.hid (MP4.out.kept (w' := w4.drewN nD) rfl)
  have NEW5 : Hid ((w4.drewN nD).heap[nb + 1]? = _) := NEW4
  have HZ5 : Hid ((w4.drewN nD).heap.size = nb + 1 + 1) := HZ4
  have hH5 := Lib.hid (hH4.out.drew nD)
  generalize w4.drewN nD = w5 at *
  clear B4 MP4 NEW4 HZ4 hH4
  go_simp
  have c2 := hH5.out.cells.2.2.1
  have hown5 := Lib.hid hH5.out.mn.own
  go_wp2_with (at_range; refine wpList_range_own _ rfl _ 59 rfl 9 75 keyLaw Tryz.underlying59 ptrR X.bn X.nn X.Dn rfl hown5.out ?_; intro w6 hrg6 hg6 hs6; have RG6 := Lib.hid hrg6; have G6 := Lib.hid hg6; have Z6 := Lib.hid hs6; clear hrg6 hg6 hs6; go_frame)
  obtain ⟨r, hr⟩ : ∃ n, w5.heap.size = n := ⟨_, rfl⟩
  have HRR : Hid (r = nb + 1 + 1) := Lib.hid (by rw [← hr]; exact HZ5.out)
  rw [hr] at RG6 ⊢
  have ZR := Lib.hid hr
  clear hr c2
  have hbf6 := hbB.2
  go_loopw [4, 5] (fun _ _ wr => ∃ (left : Lit → Bool) (cnt n : Nat) (D : DataW Unit) (T : Nat → Role) (fbN : Nat → Nat) (dvN : Nat → Value), Hid (wr.ranges Tryz.prog 9 ptrR X.bn r X.nn X.Dn left cnt) ∧
      Hid (wr.heap[nb + 1]? = some (.cells #[.int .i64 (s.room : Int), .int .i64 (used s : Int), .map (some nb), .map none, .slice none 0 0, .int .i64 0, .int .i64 (-1)] 62 (0, 0))) ∧
      Hid (MapAt wr nb n D fbN (doneD s.now left) ∧ n ≤ (doneD s.now left).length) ∧ Hid (FkF r wr s.files T fbN dvN (doneD s.now left)) ∧ Hid (Below nb w wr) ∧ Hid (r < wr.heap.size)) (fun _ _ wr => wr.rangeLeft X.bn r)
  case atStart =>
    have hst : doneD s.now (Maps.has X.Dn) = [] := doneD_none (fun p hp => has_name hH5.out.mn OK.out.nowOk.rise hp)
    have hk5 : ∀ q, q < w5.heap.size → w6.heap[q]? = w5.heap[q]? := fun q hq => G6.out.block q hq (fun c => by cases c)
    have hz5 := HZ5.out
    have hz6 := G6.out.size
    refine ⟨_, _, 0, .map [], fun _ => .no, fun _ => 0, fun _ => .pointer none, RG6, Lib.hid ((hk5 _ (by omega)).trans NEW5.out), Lib.hid ?_, Lib.hid ?_, Lib.hid (B5.out.trans ⟨G6.out.os, G6.out.tape, G6.out.output, G6.out.size, fun k hk => hk5 k (by omega)⟩), Lib.hid ?_⟩
    · rw [hst]; exact ⟨MP5.out.kept (hk5 _ (by omega)), Nat.zero_le _⟩
    · rw [hst]; exact FkF.nil _ _ _
    · have h1 := Z6.out
      have h2 := ZR.out
      first | omega | (have := RG6.out.lt; omega)
  case round =>
    obtain ⟨left, cnt, n, D, T, fbN, dvN, hrg, hbg, hmp, hfk, hBe, hrz⟩ := hrel
    go_wp2_with (at_next; refine wpList_next_ranges _ rfl _ rfl 9 keyLaw ptrR mkK mkV (fun key kl hk => by obtain ⟨x, e, _⟩ := keyOf_str_inv hk; exact ⟨x, e⟩) (fun v y hv => ptrR_inv hv) X.bn r X.nn X.Dn left cnt rfl hrg.out ?_ ?_)
    · intro _ hl0
      have HL0 := Lib.hid hl0
      clear hl0
      have hde : doneD s.now left = s.now := doneD_all HL0.out
      have hmp2 := hmp.out
      have hfk2 := hfk.out
      rw [hde] at hmp2 hfk2
      have MPE := Lib.hid hmp2
      have FKE := Lib.hid hfk2
      have t2 : wr.cell? ⟨nb + 1, 2, none⟩ = some (.map (some nb)) := (cell_of_row _ _ _ _ _ _ hbg.out).trans rfl
      have HCL := Lib.hid (AnyW.maps_Clone_owns Tryz.cloneM38 9 ptrR nb n D wr MPE.out.1.own)
      have hzr : nb + 1 < wr.heap.size := by have h1 := HRR.out; have h2 := hrz.out; omega
      clear hde hmp2 hfk2
      go_wp2_with fail
      refine HCL.out.mono ?_
      rintro e w20 ⟨rfl, own20, _, b20⟩
      have BG20 := Lib.hid ((b20.block (nb + 1) hzr).trans hbg.out)
      have t3 : w20.cell? ⟨nb + 1, 3, none⟩ = some (.map none) := (cell_of_row _ _ _ _ _ _ BG20.out).trans rfl
      have tf := frozen_box BG20.out 3
      have OW20 := Lib.hid own20
      have BB20 := Lib.hid b20
      clear own20 b20 HCL t2
      obtain ⟨db, hdb⟩ : ∃ q, wr.heap.size = q := ⟨_, rfl⟩
      have HDB := Lib.hid hdb
      rw [hdb] at OW20 ⊢
      clear hdb
      go_wp2_with fail
      go_ret
      have zr := HRR.out
      have zrr := hrz.out
      have znb := HNB.out
      have zdb := HDB.out
      have z20 := BB20.out.size
      have ow2 := OW20.out.lt
      have hset : ∀ q, q ≠ nb + 1 → (w20.setCell ⟨nb + 1, 3, none⟩ (.map (some db))).heap[q]? = w20.heap[q]? := fun q hq => Below.heap_setCell _ _ _ q hq
      have hsz : (w20.setCell ⟨nb + 1, 3, none⟩ (.map (some db))).heap.size = w20.heap.size := by simp
      have hkr : ∀ q, q < wr.heap.size → q ≠ nb + 1 → (w20.setCell ⟨nb + 1, 3, none⟩ (.map (some db))).heap[q]? = wr.heap[q]? := fun q h1 h2 => (hset q h2).trans (BB20.out.block q h1)
      have tno : ∀ k, ¬ (r < k ∧ k < wr.heap.size) → T k = .no := fun k hk => by
        cases e : T k with
        | no => rfl
        | _ => exact absurd (FKE.out.dom k (by rw [e]; exact fun c => by cases c)) hk
      have hfin := FkF.fork (B := r) (M := nb) (C := nb) (bg := nb + 1) (nb := nb) (db := db) (n := n) (s := s) (FKE.out.kept (w' := w20.setCell ⟨nb + 1, 3, none⟩ (.map (some db))) (fun k hk => hkr k (FKE.out.dom k hk).2 (by have := (FKE.out.dom k hk).1; omega)) (by omega))
        ⟨by omega, by omega, by omega, by omega⟩ (Nat.le_refl _) ⟨by omega, by omega, by omega⟩ ⟨by omega, by omega, by omega⟩ ⟨tno _ (by omega), tno _ (by omega), tno _ (by omega)⟩ (by rw [cells_set BG20.out _]; rfl)
        (MPE.out.1.kept (hkr nb (by omega) (by omega))) ((show MapAt w20 db n D fbN s.now from ⟨OW20.out, MPE.out.1.tidy, MPE.out.1.at_⟩).kept (hset db (by omega))) MPE.out.2 (by have := HNL.out; omega)
      obtain ⟨X', q1, q2⟩ := hfin
      refine ⟨X', nb + 1, rfl, by rw [HNB.out]; exact q1, fun k hk => by have := q2 k hk; omega, ?_⟩
      rw [HNB.out]
      exact (hBe.out.trans (BB20.out.mono (by omega))).setCell (show nb ≤ nb + 1 by omega) _
    · intro x c kl y1 y2 w7 cnt7 hkx hlx hy hat hrg7 hlt7 hg7 hs7 hen
      obtain ⟨x', ex, rfl⟩ := keyOf_str_inv hkx
      obtain rfl : x = x' := by unfold mkK at ex; injection ex with ex; injection ex with ex; simpa using congrArg Array.toList ex
      obtain ⟨i, hmem, rfl⟩ := entry_of hH5.out.mn (y := (y1, y2)) hy hat
      have HME := Lib.hid hmem
      have HLX := Lib.hid hlx
      have HRG7 := Lib.hid hrg7
      have HLT7 := Lib.hid hlt7
      have hk7 : ∀ q, q < wr.heap.size → q ≠ r → w7.heap[q]? = wr.heap[q]? := fun q h1 h2 => hg7.block q h1 (fun e => h2 (by injection e))
      have hrr := HRR.out
      have hrz' := hrz.out
      have HNB' := HNB.out
      have hBs := hBe.out.size
      have B7 : Hid (Below nb w w7) := Lib.hid (hBe.out.trans ⟨hg7.os, hg7.tape, hg7.output, hg7.size, fun k hk => hk7 k (by omega) (by omega)⟩)
      have hH7 := H.out.below (by rw [HNB.out]; exact B7.out)
      have hf := hH7.fil i (OK.out.live hmem)
      have BG7 := Lib.hid ((hk7 (nb + 1) (by omega) (by omega)).trans hbg.out)
      have MP7 := Lib.hid (hmp.out.1.kept (hk7 nb (by omega) (by omega)))
      have FK7 := Lib.hid (hfk.out.kept (fun k hk => hk7 k (hfk.out.dom k hk).2 (by have := (hfk.out.dom k hk).1; omega)) hg7.size)
      have ZW7 := Lib.hid hg7.size
      have HDAT := Lib.hid (OK.out.dat _ (getD_mem (OK.out.nowOk.lt _ hmem)))
      obtain ⟨fa, fc, hdv⟩ := hf.shape
      have HBY := Lib.hid hf.row.bytes
      have HFB := Lib.hid hf.blk
      have HXB := Lib.hid (hH7.dom (X.fb i) (by rw [hf.tb]; exact fun c => by cases c)).2
      obtain ⟨m, hm⟩ : ∃ q, (s.files.getD i noFi).data.length = q := ⟨_, rfl⟩
      have HM := Lib.hid hm
      rw [hm] at hdv
      rw [hdv] at HFB HBY
      have hml : m ≤ 4194304 := by rw [← hm]; exact HDAT.out.2
      have hen2 : (Instr.entry (.pointer (some ⟨r, 0, none⟩))).run Tryz.prog w7 = .ok (.tuple #[.string ⟨x.toArray⟩, .pointer (some ⟨X.fb i, 0, none⟩)]) w7 := hen
      have HXL := Lib.hid (OK.out.nowOk.nm _ hmem).2
      clear hrr hrz' HNB' hen hm hdv hf hH7 hk7 hg7 hrg7 hlt7 hs7 hlx hmem hy hat hkx ex hBs
      rw [show mkK x = .string ⟨x.toArray⟩ from rfl, show mkV (some (X.fb i)) = .pointer (some ⟨X.fb i, 0, none⟩) from rfl]
      go_upto_region 5 with fail
      have B8 := Lib.hid (B7.out.trans (drewn _ w7 1))
      have BG8 : Hid (w7.drew.heap[nb + 1]? = _) := BG7
      have FB8 : Hid (w7.drew.heap[X.fb i]? = _) := HFB
      have MP8 := Lib.hid (MP7.out.kept (w' := w7.drew) rfl)
      have FK8 := Lib.hid (FK7.out.kept (w' := w7.drew) (fun _ _ => rfl) (Nat.le_refl _))
      have BY8 := Lib.hid (HBY.out.kept (S' := fun k => B ≤ k ∧ k < w7.heap.size) (w' := w7.drew) (fun k hk => ⟨hk, rfl⟩))
      have Z8 : Hid (w7.heap.size = w7.drew.heap.size) := Lib.hid rfl
      have hwd : w7.drewN 1 = w7.drew := rfl
      rw [hwd] at B8
      clear hwd BG7 HFB MP7 FK7 HBY
      refine wp_region_D 17 (fun W => W.cell? ⟨nb + 1, 2, none⟩ = some (.map (some nb)) ∧ W.cell? ⟨X.fb i, 0, none⟩ = some (.slice fa m fc)) (by kernel_rfl) (by kernel_rfl) (by kernel_rfl) ?_
      have hSd : w7.drew.cell? ⟨nb + 1, 2, none⟩ = some (.map (some nb)) ∧ w7.drew.cell? ⟨X.fb i, 0, none⟩ = some (.slice fa m fc) := ⟨(cell_of_row _ _ _ _ _ _ BG8.out).trans rfl, (cell_of_row _ _ _ _ _ _ FB8.out).trans rfl⟩
      refine wpAnyD_take (i := 0) (oi := ⟨_, _, _, _, _, _⟩) (v := ?_) rfl (by kernel_rfl) (by kernel_rfl) (by kernel_rfl) (by kernel_rfl) (fun _ _ _ h => h) (fun _ _ h => h) (Or.inl (Or.inl ⟨by rfl, ?_⟩)) hSd ?_
      rotate_left
      · intro W hSw; (try dsimp only at hSw); first | (go_simp; done) | (go_simp; with_reducible rfl)
      try simp only [Act.put, List.setIfInBounds_toArray, List.set_cons_zero, List.set_cons_succ]
      refine wpAnyD_take (i := 1) (oi := ⟨_, _, _, _, _, _⟩) (v := ?_) rfl (by kernel_rfl) (by kernel_rfl) (by kernel_rfl) (by kernel_rfl) (fun _ _ _ h => h) (fun _ _ h => h) (Or.inl (Or.inl ⟨by rfl, ?_⟩)) hSd ?_
      rotate_left
      · intro W hSw; (try dsimp only at hSw); first | (go_simp; done) | (go_simp; with_reducible rfl)
      try simp only [Act.put, List.setIfInBounds_toArray, List.set_cons_zero, List.set_cons_succ]
      refine wpAnyD_take (i := 2) (oi := ⟨_, _, _, _, _, _⟩) (v := ?_) rfl (by kernel_rfl) (by kernel_rfl) (by kernel_rfl) (by kernel_rfl) (fun _ _ _ h => h) (fun _ _ h => h) (Or.inl (Or.inl ⟨by rfl, ?_⟩)) hSd ?_
      rotate_left
      · intro W hSw; (try dsimp only at hSw); first | (go_simp; done) | (go_simp; with_reducible rfl)
      try simp only [Act.put, List.setIfInBounds_toArray, List.set_cons_zero, List.set_cons_succ]
      refine wpAnyD_take (i := 3) (oi := ⟨_, _, _, _, _, _⟩) (v := ?_) rfl (by kernel_rfl) (by kernel_rfl) (by kernel_rfl) (by kernel_rfl) (fun _ _ _ h => h) (fun _ _ h => h) (Or.inl (Or.inl ⟨by rfl, ?_⟩)) hSd ?_
      rotate_left
      · intro W hSw; (try dsimp only at hSw); first | (go_simp; done) | (go_simp; with_reducible rfl)
      try simp only [Act.put, List.setIfInBounds_toArray, List.set_cons_zero, List.set_cons_succ]
      refine wpAnyD_take (i := 4) (oi := ⟨_, _, _, _, _, _⟩) (v := ?_) rfl (by kernel_rfl) (by kernel_rfl) (by kernel_rfl) (by kernel_rfl) (fun _ _ _ h => h) (fun _ _ h => h) (Or.inl (Or.inl ⟨by rfl, ?_⟩)) hSd ?_
      rotate_left
      · intro W hSw; (try dsimp only at hSw); first | (go_simp; done) | (go_simp; with_reducible rfl)
      try simp only [Act.put, List.setIfInBounds_toArray, List.set_cons_zero, List.set_cons_succ]
      refine wpAnyD_take (i := 5) (oi := ⟨_, _, _, _, _, _⟩) (v := ?_) rfl (by kernel_rfl) (by kernel_rfl) (by kernel_rfl) (by kernel_rfl) (fun _ _ _ h => h) (fun _ _ h => h) (Or.inl (Or.inl ⟨by rfl, ?_⟩)) hSd ?_
      rotate_left
      · intro W hSw; (try dsimp only at hSw); first | (go_simp; done) | (go_simp; with_reducible rfl)
      try simp only [Act.put, List.setIfInBounds_toArray, List.set_cons_zero, List.set_cons_succ]
      refine wpAnyD_take (i := 6) (oi := ⟨_, _, _, _, _, _⟩) (v := ?_) rfl (by kernel_rfl) (by kernel_rfl) (by kernel_rfl) (by kernel_rfl) (fun _ _ _ h => h) (fun _ _ h => h) (Or.inl (Or.inl ⟨by rfl, ?_⟩)) hSd ?_
      rotate_left
      · intro W hSw; (try dsimp only at hSw); first | (go_simp; done) | (go_simp; with_reducible rfl)
      try simp only [Act.put, List.setIfInBounds_toArray, List.set_cons_zero, List.set_cons_succ]
      refine wpAnyD_take (i := 7) (oi := ⟨_, _, _, _, _, _⟩) (v := ?_) rfl (by kernel_rfl) (by kernel_rfl) (by kernel_rfl) (by kernel_rfl) (fun _ _ _ h => h) (fun _ _ h => h) (Or.inl (Or.inl ⟨by rfl, ?_⟩)) hSd ?_
      rotate_left
      · intro W hSw; (try dsimp only at hSw); first | (go_simp; done) | (go_simp; with_reducible rfl)
      try simp only [Act.put, List.setIfInBounds_toArray, List.set_cons_zero, List.set_cons_succ]
      refine wpAnyD_take (i := 8) (oi := ⟨_, _, _, _, _, _⟩) (v := ?_) rfl (by kernel_rfl) (by kernel_rfl) (by kernel_rfl) (by kernel_rfl) (fun _ _ _ h => h) (fun _ _ h => h) (Or.inl (Or.inl ⟨by rfl, ?_⟩)) hSd ?_
      rotate_left
      · intro W hSw; (try dsimp only at hSw); first | (go_simp; done) | (go_simp; with_reducible rfl)
      try simp only [Act.put, List.setIfInBounds_toArray, List.set_cons_zero, List.set_cons_succ]
      refine wpAnyD_take (i := 10) (oi := ⟨_, _, _, _, _, _⟩) (v := ?_) rfl (by kernel_rfl) (by kernel_rfl) (by kernel_rfl) (by kernel_rfl) (fun _ _ _ h => h) (fun _ _ h => h) (Or.inl (Or.inl ⟨by rfl, ?_⟩)) hSd ?_
      rotate_left
      · intro W hSw; (try dsimp only at hSw); first | (go_simp; done) | (go_simp; with_reducible rfl)
      try simp only [Act.put, List.setIfInBounds_toArray, List.set_cons_zero, List.set_cons_succ]
      refine wpAnyD_take (i := 11) (oi := ⟨_, _, _, _, _, _⟩) (v := ?_) rfl (by kernel_rfl) (by kernel_rfl) (by kernel_rfl) (by kernel_rfl) (fun _ _ _ h => h) (fun _ _ h => h) (Or.inl (Or.inl ⟨by rfl, ?_⟩)) hSd ?_
      rotate_left
      · intro W hSw; (try dsimp only at hSw); first | (go_simp; done) | (go_simp; with_reducible rfl)
      try simp only [Act.put, List.setIfInBounds_toArray, List.set_cons_zero, List.set_cons_succ]
      refine wpAnyD_take (i := 12) (oi := ⟨_, _, _, _, _, _⟩) (v := ?_) rfl (by kernel_rfl) (by kernel_rfl) (by kernel_rfl) (by kernel_rfl) (fun _ _ _ h => h) (fun _ _ h => h) (Or.inl (Or.inl ⟨by rfl, ?_⟩)) hSd ?_
      rotate_left
      · intro W hSw; (try dsimp only at hSw); first | (go_simp; done) | (go_simp; with_reducible rfl)
      try simp only [Act.put, List.setIfInBounds_toArray, List.set_cons_zero, List.set_cons_succ]
      refine wpAnyD_take (i := 13) (oi := ⟨_, _, _, _, _, _⟩) (v := ?_) rfl (by kernel_rfl) (by kernel_rfl) (by kernel_rfl) (by kernel_rfl) (fun _ _ _ h => h) (fun _ _ h => h) (Or.inl (Or.inl ⟨by rfl, ?_⟩)) hSd ?_
      rotate_left
      · intro W hSw; (try dsimp only at hSw); first | (go_simp; done) | (go_simp; with_reducible rfl)
      try simp only [Act.put, List.setIfInBounds_toArray, List.set_cons_zero, List.set_cons_succ]
      refine wpAnyD_take (i := 14) (oi := ⟨_, _, _, _, _, _⟩) (v := ?_) rfl (by kernel_rfl) (by kernel_rfl) (by kernel_rfl) (by kernel_rfl) (fun _ _ _ h => h) (fun _ _ h => h) (Or.inl (Or.inl ⟨by rfl, ?_⟩)) hSd ?_
      rotate_left
      · intro W hSw; (try dsimp only at hSw); first | (go_simp; done) | (go_simp; with_reducible rfl)
      try simp only [Act.put, List.setIfInBounds_toArray, List.set_cons_zero, List.set_cons_succ]
      clear hSd
      refine wpAnyD_one (i := 9) (o := ⟨_, _, _, _, _, _⟩) (by kernel_rfl) (by decide) rfl (fun nD K hK0 => ?_)
      have hK := Lib.hid hK0
      clear hK0
      rw [Z8.out] at HXB BY8
      have B9 := Lib.hid (B8.out.trans (drewn _ w7.drew nD))
      have BG9 : Hid ((w7.drew.drewN nD).heap[nb + 1]? = _) := BG8
      have FB9 : Hid ((w7.drew.drewN nD).heap[X.fb i]? = _) := FB8
      have MP9 := Lib.hid (MP8.out.kept (w' := w7.drew.drewN nD) rfl)
      have FK9 := Lib.hid (FK8.out.kept (w' := w7.drew.drewN nD) (fun _ _ => rfl) (Nat.le_refl _))
      have BY9 := Lib.hid (BY8.out.kept (S' := fun k => B ≤ k ∧ k < w7.drew.heap.size) (w' := w7.drew.drewN nD) (fun k hk => ⟨hk, rfl⟩))
      have Z9 : Hid (w7.drew.heap.size = (w7.drew.drewN nD).heap.size) := Lib.hid rfl
      have E9 : Hid (∀ q : Nat, (w7.drew.drewN nD).heap[q]? = w7.heap[q]?) := Lib.hid (fun _ => rfl)
      clear B8 BG8 FB8 MP8 FK8 BY8
      generalize w7.drew.drewN nD = w9 at *
      rw [Z9.out] at HXB BY9
      have HCL := Lib.hid (clone_any (fun k => B ≤ k ∧ k < w9.heap.size) (.slice fa m fc) (s.files.getD i noFi).data w9 (by rw [HM.out]; exact hml) (fun k hk => hk.2) BY9.out)
      go_simp
      refine HCL.out.mono ?_
      rintro e w10 ⟨v', rfl, o10, b10⟩
      obtain ⟨va, vc, hvv⟩ : ∃ a c, v' = .slice a m c := by
        rcases o10.2 with ⟨e1, e2⟩ | ⟨g, cap, cur, e1, _⟩
        · exact ⟨none, 0, by rw [e1, ← HM.out, e2]⟩
        · exact ⟨_, _, by rw [e1, HM.out]⟩
      subst hvv
      have RW10 := Lib.hid (rowM_own (B' := r) o10 (by have h1 := FK9.out; have h2 := hrz.out; have h3 := ZW7.out; have h4 := Z8.out; have h5 := Z9.out; omega))
      have OB10 : Hid (∀ k, (Value.slice va m vc).ownBlock = some k → w9.heap.size ≤ k ∧ k < w10.heap.size) := Lib.hid (fun k hk => by
        rcases o10.2 with ⟨e1, e2⟩ | ⟨g, cap, cur, e1, e2, e3, _⟩
        · rw [e1] at hk; cases hk
        · rw [e1] at hk
          injection hk with hk
          subst hk
          exact ⟨e2, (Array.getElem?_eq_some_iff.1 e3).1⟩)
      have B10 := Lib.hid (B9.out.trans (b10.mono (by have h1 := B9.out.size; have h2 := HNB.out; omega)))
      have hq1 : nb + 1 < w9.heap.size := by have h2 := hrz.out; have h3 := ZW7.out; have h4 := Z8.out; have h5 := Z9.out; have h6 := HRR.out; omega
      have BG10 := Lib.hid ((b10.block (nb + 1) hq1).trans BG9.out)
      have FB10 := Lib.hid ((b10.block (X.fb i) HXB.out).trans FB9.out)
      have MP10 := Lib.hid (MP9.out.kept (b10.block nb (by omega)))
      have FK10 := Lib.hid (FK9.out.kept (fun k hk => b10.block k (FK9.out.dom k hk).2) b10.size)
      have Z10 := Lib.hid b10.size
      have E10 := Lib.hid (fun (q : Nat) (hq : q < w9.heap.size) => b10.block q hq)
      clear o10 b10 HCL B9 BG9 FB9 MP9 BY9
      refine hK.out _ _ ⟨(cell_of_row _ _ _ _ _ _ BG10.out).trans rfl, (cell_of_row _ _ _ _ _ _ FB10.out).trans rfl⟩ ?_
      clear hK K hq1
      try simp only [Act.put, List.setIfInBounds_toArray, List.set_cons_zero, List.set_cons_succ]
      have hSd : w10.cell? ⟨nb + 1, 2, none⟩ = some (.map (some nb)) ∧ w10.cell? ⟨X.fb i, 0, none⟩ = some (.slice fa m fc) := ⟨(cell_of_row _ _ _ _ _ _ BG10.out).trans rfl, (cell_of_row _ _ _ _ _ _ FB10.out).trans rfl⟩
      refine wpAnyD_take (i := 15) (oi := ⟨_, _, _, _, _, _⟩) (v := ?_) rfl (by kernel_rfl) (by kernel_rfl) (by kernel_rfl) (by kernel_rfl) (fun _ _ _ h => h) (fun _ _ h => h) (Or.inl (Or.inl ⟨by rfl, ?_⟩)) hSd ?_
      rotate_left
      · intro W hSw; (try dsimp only at hSw); first | (go_simp; done) | (go_simp; with_reducible rfl)
      try simp only [Act.put, List.setIfInBounds_toArray, List.set_cons_zero, List.set_cons_succ]
      clear hSd
      refine wpAnyD_one (i := 16) (o := ⟨_, _, _, _, _, _⟩) (by kernel_rfl) (by decide) rfl (fun nD K hK0 => ?_)
      have hK := Lib.hid hK0
      clear hK0
      have E11 : Hid (∀ q : Nat, (w10.drewN nD).heap[q]? = w10.heap[q]?) := Lib.hid (fun _ => rfl)
      have Z11 : Hid ((w10.drewN nD).heap.size = w10.heap.size) := Lib.hid rfl
      have B11 := Lib.hid (B10.out.trans (drewn _ w10 nD))
      generalize w10.drewN nD = w11 at *
      go_simp
      have NEW := new_five w11 #[.slice va m vc, .int .i64 (m : Int)] 78
      have E12 : Hid (∀ q : Nat, q < w10.heap.size → (w11.alloc (.cells #[.slice va m vc, .int .i64 (m : Int)] 78)).heap[q]? = w10.heap[q]?) := Lib.hid (fun q hq => (Below.heap_alloc w11 _ q (by have := Z11.out; omega)).trans (E11.out q))
      have B12 := Lib.hid (B11.out.alloc (by have h1 := B11.out.size; have h2 := HNB.out; omega) (.cells #[.slice va m vc, .int .i64 (m : Int)] 78))
      have ZZ : (w11.alloc (.cells #[.slice va m vc, .int .i64 (m : Int)] 78)).heap.size = w11.heap.size + 1 := by simp
      obtain ⟨w12, hw12⟩ : ∃ q, w11.alloc (.cells #[.slice va m vc, .int .i64 (m : Int)] 78) = q := ⟨_, rfl⟩
      rw [hw12] at NEW E12 B12 ZZ ⊢
      rw [Z11.out] at NEW ZZ ⊢
      have NEW12 := Lib.hid NEW
      have Z12 := Lib.hid ZZ
      obtain ⟨nf, hnf⟩ : ∃ q, w10.heap.size = q := ⟨_, rfl⟩
      have HNF := Lib.hid hnf
      rw [hnf] at NEW12 Z12 E12 ⊢
      clear hw12 NEW ZZ hnf
      have hq1 : nb + 1 < nf := by have h2 := hrz.out; have h3 := ZW7.out; have h4 := Z8.out; have h5 := Z9.out; have h6 := HRR.out; have h7 := Z10.out; have h8 := HNF.out; omega
      have hq2 : X.fb i < nf := by have h1 := HXB.out; have h7 := Z10.out; have h8 := HNF.out; omega
      have BG12 := Lib.hid ((E12.out (nb + 1) hq1).trans BG10.out)
      have FB12 := Lib.hid ((E12.out (X.fb i) hq2).trans FB10.out)
      have MP12 := Lib.hid (MP10.out.kept (E12.out nb (by omega)))
      refine hK.out _ _ ⟨(cell_of_row _ _ _ _ _ _ BG12.out).trans rfl, (cell_of_row _ _ _ _ _ _ FB12.out).trans rfl⟩ ?_
      clear hK K hq1 hq2
      try simp only [Act.put, List.setIfInBounds_toArray, List.set_cons_zero, List.set_cons_succ]
      refine wpAnyD_last (by kernel_rfl) (fun nD => ?_)
      refine wpOp_one rfl (by rfl) ?_
      have MP13 := Lib.hid (MP12.out.kept (w' := w12.drewN nD) rfl)
      have E13 : Hid (∀ q : Nat, (w12.drewN nD).heap[q]? = w12.heap[q]?) := Lib.hid (fun _ => rfl)
      have Z13 : Hid ((w12.drewN nD).heap.size = w12.heap.size) := Lib.hid rfl
      have B13 := Lib.hid (B12.out.trans (drewn _ w12 nD))
      generalize w12.drewN nD = w13 at *
      have hnn : n < maxLen := by have h1 := hmp.out.2; have h2 := HNL.out; have h3 : (doneD s.now left).length ≤ s.now.length := List.length_filter_le _ _; unfold maxLen; omega
      obtain ⟨w14, hrun, own14, gr14⟩ := MP13.out.own.update keyLaw Tryz.underlying59 hnn (key_of (x := x) (Nat.le_trans (show x.length ≤ 255 from HXL.out) (by omega))) (show ptrR (.pointer (some ⟨nf, 0, none⟩)) = some (.lit (.int .i64 (nf : Int)), []) from rfl)
      have OW14 := Lib.hid own14
      have GR14 := Lib.hid gr14
      clear own14 gr14 hnn
      go_simp
      go_wp2_with fail
      have z7 := ZW7.out
      have z8 := Z8.out
      have z9 := Z9.out
      have z10 := Z10.out
      have z11 := Z11.out
      have z12 := Z12.out
      have z13 := Z13.out
      have z14 := GR14.out.size
      have zr := HRR.out
      have zrr := hrz.out
      have znb := HNB.out
      have znf := HNF.out
      have E14 : ∀ q, q < nf → q ≠ nb → w14.heap[q]? = w10.heap[q]? := fun q h1 h2 => (GR14.out.block q (by omega) (fun e => h2 (by injection e))).trans ((E13.out q).trans (E12.out q h1))
      have E97 : ∀ q, q < w9.heap.size → q ≠ nb → w14.heap[q]? = w7.heap[q]? := fun q h1 h2 => (E14 q (by omega) h2).trans ((E10.out q h1).trans (E9.out q))
      have B14 : Below nb w w14 := B13.out.trans ⟨GR14.out.os, GR14.out.tape, GR14.out.output, GR14.out.size, fun k hk => GR14.out.block k (by omega) (fun e => by injection e with e; omega)⟩
      have hbnl := hbn.2
      have RG14 := ranges_kept HRG7.out (E97 X.bn (by omega) (by omega)) (E97 r (by omega) (by omega))
      have hrs := OK.out.nowOk.rise
      have hinj : ∀ p ∈ s.now, p.2 = i → p = (x, i) := fun p hp e => OK.out.nowOk.inj p hp (x, i) HME.out e
      refine ⟨⟨fun z => left z && !z.sameKey (.string x), cnt7, n + 1, D.put (.string x) (.lit (.int .i64 (nf : Int))), _, fun j => if j = i then nf else fbN j, fun j => if j = i then .slice va m vc else dvN j, Lib.hid RG14, Lib.hid ((E14 (nb + 1) (by omega) (by omega)).trans BG10.out), Lib.hid ⟨⟨OW14.out, MP12.out.tidy.put (show WideAt.IsKeyLit (.string x) from trivial) _, fun y z => ?_⟩, ?_⟩, Lib.hid (FkF.push (i := i) (nf := nf) (v' := .slice va m vc) FK9.out (fun p hp => ?_) (fun k hk => ?_) (by omega) ⟨by omega, by omega, by omega⟩ (fun k hk => ?_) ?_ ?_), Lib.hid B14, Lib.hid (by omega)⟩, ?_⟩
      · unfold fndB
        rw [fnd_next hrs HME.out]
        by_cases e : y = x
        · subst e
          rw [atKey_put_same MP12.out.tidy.isMap (show WideAt.IsKeyLit (.string y) from trivial), if_pos rfl]
          show _ = DataW.lit (.int .i64 ((if i = i then nf else fbN i : Nat) : Int))
          rw [if_pos rfl]
        · rw [atKey_put_other (fun h2 => e (by injection h2)), if_neg e, MP12.out.at_ y z]
          unfold fndB
          cases hj : fnd (doneD s.now left) y with
          | none => rfl
          | some j =>
            obtain ⟨h1, h2⟩ := (fnd_doneD hrs).1 hj
            have hne : ¬ j = i := fun e2 => e (congrArg Prod.fst (hinj (y, j) h1 e2))
            show DataW.lit (.int .i64 (fbN j : Int)) = DataW.lit (.int .i64 ((if j = i then nf else fbN j : Nat) : Int))
            rw [if_neg hne]
      · rw [len_next hrs HME.out HLX.out]
        have := hmp.out.2
        omega
      · obtain ⟨h1, h2⟩ := mem_doneD.1 hp
        by_cases e : p.2 = i
        · exact Or.inl e
        · rcases left_next.1 h2 with h3 | h3
          · exact Or.inr ⟨mem_doneD.2 ⟨h1, h3⟩, e⟩
          · have h4 := mem_fnd hrs (show (p.1, p.2) ∈ s.now from h1)
            rw [h3, mem_fnd hrs HME.out] at h4
            injection h4 with h4
            exact absurd h4.symm e
      · have hd := FK9.out.dom k hk
        exact (E14 k (by omega) (by omega)).trans (E10.out k hd.2)
      · have h1 := OB10.out k hk
        exact ⟨h1.1, by omega, by omega, by omega⟩
      · rw [HM.out]
        exact (GR14.out.block nf (by omega) (fun e => by injection e with e; omega)).trans ((E13.out nf).trans NEW12.out)
      · exact RW10.out.kept (by omega) (fun k hk => E14 k (by have := OB10.out k hk; omega) (by have := OB10.out k hk; omega))
      · have h1 := RG14.left_eq
        have h2 := hrg.out.left_eq
        rw [h1, h2]
        exact HLT7.out
end Go.Proofs.YtjefcalndfcmdaaGreatDoor
