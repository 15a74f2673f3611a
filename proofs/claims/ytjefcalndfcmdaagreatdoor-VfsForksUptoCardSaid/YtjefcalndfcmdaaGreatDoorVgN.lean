/- The reference's flush of the first changes of names. -/
import Derived.Test.YtjefcalndfcmdaaGreatDoorVgM
namespace Go.Proofs.YtjefcalndfcmdaaGreatDoor
open Go.RowKit Go.Maps
attribute [local go_sem ↓] Go.wp_at_zero Go.wp_at_succ
theorem acR_len (l : List Ac) : (acR l).length = l.length * 3 := by
  induction l with
  | nil => rfl
  | cons p r ih => show (acR r).length + 1 + 1 + 1 = (r.length + 1) * 3; omega
def noAcR : Ac := ⟨[], [], none⟩
theorem acR_at {l : List Ac} {k : Nat} (h : k < l.length) : (acR l)[k * 3]? = some (.string ⟨(l.getD k noAcR).gone.toArray⟩) ∧ (acR l)[k * 3 + 1]? = some (.string ⟨(l.getD k noAcR).come.toArray⟩) ∧ (acR l)[k * 3 + 2]? = some (.int .i64 (acI (l.getD k noAcR))) := by
  induction l generalizing k with
  | nil => cases h
  | cons p r ih =>
    cases k with
    | zero => exact ⟨rfl, rfl, rfl⟩
    | succ k =>
      have h1 := ih (k := k) (by simpa using h)
      rw [show (k + 1) * 3 = k * 3 + 1 + 1 + 1 by omega]
      exact h1
theorem acR_drop (l : List Ac) (k : Nat) : (acR l).drop (k * 3) = acR (l.drop k) := by
  induction l generalizing k with
  | nil => simp [acR]
  | cons p r ih =>
    cases k with
    | zero => rfl
    | succ k => rw [show (k + 1) * 3 = k * 3 + 1 + 1 + 1 by omega]; exact ih k
theorem doAll_takeR {l : Dir} {A : List Ac} {k : Nat} (h : k < A.length) : doAll l (A.take (k + 1)) = doA (doAll l (A.take k)) (A.getD k noAcR) := by
  rw [take_snoc h (d := noAcR), doAll_snoc]
theorem und_acs : Tryz.prog.underlying 31 = some (.slice (Tryz.prog.elem 31)) := by kernel_rfl
theorem size_acs (W : World) : (sizeOf (Tryz.prog.elem 31)).run Tryz.prog W = .ok 3 W := by kernel_rfl
set_option maxRecDepth 100000 in
set_option maxHeartbeats 4000000 in
theorem rflush_any (S : Nat → Prop) (af an az aa : Option Addr) (cf cn cs ca : Nat) (room steps l : Int) (s : Fs) (n : Nat) (w : World) (h : FsR S w (.slice af s.files.length cf) (.slice an s.now.length cn) (.slice az s.sure.length cs) (.slice aa s.acts.length ca) s) (hS : ∀ k, S k → k < w.heap.size)
    (hn : n ≤ s.acts.length) (hd : ∀ k, k ≤ s.acts.length → DirOk s.files.length (doAll s.sure (s.acts.take k))) (hlen : s.sure.length + s.acts.length ≤ 4194304) :
    Calls Tryz.prog 52 #[.agg (fsV (.slice af s.files.length cf) (.slice an s.now.length cn) (.slice az s.sure.length cs) (.slice aa s.acts.length ca) room steps l), .int .i64 (n : Int)] w fun e w' => ∃ vs va, e = .returned (.agg (fsV (.slice af s.files.length cf) (.slice an s.now.length cn) vs va room steps l)) ∧ FsR (fun k => S k ∨ (w.heap.size ≤ k ∧ k < w'.heap.size)) w' (.slice af s.files.length cf) (.slice an s.now.length cn) vs va { s with sure := doAll s.sure (s.acts.take n), acts := s.acts.drop n } ∧ Below w.heap.size w w' := by
  have HH := Lib.hid h
  have HS := Lib.hid hS
  have HD := Lib.hid hd
  have HL := Lib.hid hlen
  have HT := Lib.hid (Fr.make w (.slice af s.files.length cf) (.slice an s.now.length cn) (.slice az s.sure.length cs) (.slice aa s.acts.length ca) room steps l)
  have hal : s.acts.length ≤ 4194304 := by omega
  clear h hS hd hlen
  unfold fsV zrow at HT
  unfold fsV
  go_enter Tryz.func52, Tryz.ntmps52
  go_upto_region 1 with fail
  obtain ⟨w2, hw2⟩ : ∃ x, ((w.alloc (.cells #[.slice af s.files.length cf, .slice an s.now.length cn, .slice az s.sure.length cs, .slice aa s.acts.length ca, .int .i64 room, .int .i64 steps, .int .i64 l] 33)).alloc (.cells #[.slice none 0 0, .slice none 0 0, .slice none 0 0, .slice none 0 0, .int .i64 0, .int .i64 0, .int .i64 0] 33)) = x := ⟨_, rfl⟩
  rw [hw2] at HT ⊢
  clear hw2
  go_wp2_with fail
  go_loopw [5] (fun i wr => ∃ k : Nat, k ≤ n ∧ i = .int .i64 (k : Int) ∧ ∃ a c m, Hid (Fr w wr (.slice af s.files.length cf) (.slice an s.now.length cn) (.slice a m c) (.slice aa s.acts.length ca) room steps l) ∧ Hid (NmC (fun q => S q ∨ (w.heap.size + 2 ≤ q ∧ q < wr.heap.size)) wr (.slice a m c) (doAll s.sure (s.acts.take k))) ∧ Hid (m = (doAll s.sure (s.acts.take k)).length)) (fun i _ => n - (intOf i).toNat)
  case atStart =>
    refine ⟨0, Nat.zero_le _, rfl, az, cs, s.sure.length, HT, Lib.hid ?_, Lib.hid (by rw [List.take_zero]; rfl)⟩
    rw [List.take_zero]
    exact HH.out.sure.kept (fun k hk => ⟨Or.inl hk, HT.out.below.block k (HS.out k hk)⟩)
  case round =>
    obtain ⟨k, hk, rfl, az2, cs2, m, hF, hN, hm⟩ := hrel
    by_cases hlt : k < n
    · have hka : k < s.acts.length := by omega
      obtain ⟨g1, o1, rfl, hSg, _, _, hat⟩ := CellsC.at HH.out.acts (by omega)
      have hc := acR_at hka
      have hblk : wr.heap[g1]? = w.heap[g1]? := hF.out.below.block g1 (HS.out _ hSg)
      have kc : ∀ (p : Nat) (u : Value), w.cell? ⟨g1, p, none⟩ = some u → wr.drew.cell? ⟨g1, p, none⟩ = some u := fun p u hu => ((hF.out.drew 1).below.cell (p := ⟨g1, p, none⟩) (HS.out _ hSg)).trans hu
      have d0 := kc _ _ (hat _ _ hc.1)
      have d1 : wr.drew.cell? ⟨g1, o1 + k * 3 + 1, none⟩ = some (.string ⟨(s.acts.getD k noAcR).come.toArray⟩) := kc _ _ (hat _ _ hc.2.1)
      have d2 : wr.drew.cell? ⟨g1, o1 + k * 3 + 2, none⟩ = some (.int .i64 (acI (s.acts.getD k noAcR))) := kc _ _ (hat _ _ hc.2.2)
      have HDS := Lib.hid (doAll_takeR (l := s.sure) hka)
      have hdk := HD.out k (by omega)
      have hlk := doAll_len s.sure (s.acts.take k)
      rw [List.length_take] at hlk
      have HDO := Lib.hid (rdo_any (fun q => S q ∨ (w.heap.size + 2 ≤ q ∧ q < wr.heap.size)) (.slice az2 m cs2) (doAll s.sure (s.acts.take k)) (s.acts.getD k noAcR).gone (s.acts.getD k noAcR).come (s.acts.getD k noAcR).file wr.drew (hN.out.kept (fun k hk => ⟨hk, rfl⟩)) (fun q hq => by
        rcases hq with hq | hq
        · exact Nat.lt_of_lt_of_le (HS.out q hq) hF.out.below.size
        · exact hq.2) (by have := HL.out; omega) hdk.rise (fun p hp => (hdk.nm p hp).1))
      have e1 : (⟨(s.acts.getD k noAcR).gone, (s.acts.getD k noAcR).come, (s.acts.getD k noAcR).file⟩ : Ac) = s.acts.getD k noAcR := rfl
      rw [e1, ← HDS.out] at HDO
      clear hat hc hblk kc hdk hlk e1
      obtain ⟨ac, hac⟩ : ∃ x, s.acts.getD k noAcR = x := ⟨_, rfl⟩
      rw [hac] at d0 d1 d2 HDO
      clear hac HDS
      obtain ⟨fi, hfi⟩ : ∃ x, acI ac = x := ⟨_, rfl⟩
      rw [hfi] at d2 HDO
      clear hfi
      go_upto_region 4 with fail
      have F1 := Lib.hid (hF.out.drew 1)
      have hwd : wr.drewN 1 = wr.drew := rfl
      rw [hwd] at F1
      clear hwd
      obtain ⟨_, _, e2, e3, _, _, _⟩ := F1.out.cells
      have ff : wr.drew.frozen? ⟨w.heap.size, 2, none⟩ = false := F1.out.free 2
      go_still_tail 7, (by kernel_rfl)
      change wpList _ _ _ _ _ wr.drew
      have N1 : Hid (NmC (fun q => S q ∨ (w.heap.size + 2 ≤ q ∧ q < wr.drew.heap.size)) wr.drew (.slice az2 m cs2) (doAll s.sure (s.acts.take k))) := Lib.hid (hN.out.kept (fun k hk => ⟨hk, rfl⟩))
      have HZ : Hid (w.heap.size + 2 ≤ wr.drew.heap.size) := Lib.hid hF.out.lt
      have HZ2 : Hid (wr.heap.size = wr.drew.heap.size) := Lib.hid rfl
      clear d0 d1 d2 e2 e3 ff hF hN
      generalize wr.drew = w4 at *
      go_wp2_with fail
      refine HDO.out.mono ?_
      rintro e w5 ⟨v5, rfl, n5, b5⟩
      obtain ⟨a5, c5, rfl⟩ := CellsC.shape n5
      have F5 := Lib.hid (F1.out.call b5)
      have N5 := Lib.hid n5
      have Z5 := Lib.hid b5.size
      obtain ⟨_, _, e2, _, _, _, _⟩ := F5.out.cells
      have ff : w5.frozen? ⟨w.heap.size, 2, none⟩ = false := F5.out.free 2
      obtain ⟨m5, hm5⟩ : ∃ x, (doAll s.sure (s.acts.take (k + 1))).length = x := ⟨_, rfl⟩
      have HM5 := Lib.hid hm5.symm
      rw [hm5]
      have N5' : Hid (NmC (fun q => (S q ∨ (w.heap.size + 2 ≤ q ∧ q < wr.heap.size)) ∨ (w4.heap.size ≤ q ∧ q < w5.heap.size)) w5 (.slice a5 m5 c5) (doAll s.sure (s.acts.take (k + 1)))) := Lib.hid (by
        have h := N5.out
        rw [hm5] at h
        exact h)
      clear hm5 n5 b5 HDO N5
      have ht := F5.out.one 2 (.slice a5 m5 c5) (vf' := .slice af s.files.length cf) (vn' := .slice an s.now.length cn) (vs' := .slice a5 m5 c5) (va' := .slice (some ⟨g1, o1, none⟩) s.acts.length ca) (room' := room) (steps' := steps) (l' := l) rfl
      have HF6 := Lib.hid ht.1
      have P6 := Lib.hid ht.2
      clear ht
      go_upto_region 3 with fail
      clear e2 ff
      generalize w5.setCell ⟨w.heap.size, 2, none⟩ (.slice a5 m5 c5) = w6 at *
      go_wp2_with fail
      have hz6 := P6.out.size
      have hz5 := Z5.out
      have hz4 := HZ.out
      have hz2 := HZ2.out
      refine ⟨⟨k + 1, by omega, by go_num, a5, c5, m5, HF6, Lib.hid ?_, HM5⟩, by simp [intOf]; omega⟩
      refine CellsC.kept N5'.out (fun q hq => ?_)
      rcases hq with (hq | hq) | hq
      · exact ⟨Or.inl hq, P6.out.far q (by have := HS.out q hq; omega)⟩
      · exact ⟨Or.inr ⟨hq.1, by omega⟩, P6.out.far q (by omega)⟩
      · exact ⟨Or.inr ⟨by omega, by omega⟩, P6.out.far q (by omega)⟩
    · have hkn : k = n := by omega
      subst hkn
      obtain ⟨a9, c9, hr, hcut⟩ := CellsC.cutL HH.out.acts (P := Tryz.prog) (t := 31) und_acs size_acs hn
      have HC9 := Lib.hid hcut
      rw [acR_drop] at HC9
      clear hcut
      obtain ⟨_, _, _, e3, _, _, _⟩ := hF.out.cells
      have ff : wr.frozen? ⟨w.heap.size, 3, none⟩ = false := hF.out.free 3
      have ht := hF.out.one 3 (.slice a9 (s.acts.length - k) c9) (vf' := .slice af s.files.length cf) (vn' := .slice an s.now.length cn) (vs' := .slice az2 m cs2) (va' := .slice a9 (s.acts.length - k) c9) (room' := room) (steps' := steps) (l' := l) rfl
      have HF6 := Lib.hid ht.1
      have P6 := Lib.hid ht.2
      have N6 := hN
      clear ht hN
      go_upto_region 6 with fail
      clear e3 ff hr
      generalize wr.setCell ⟨w.heap.size, 3, none⟩ (.slice a9 (s.acts.length - k) c9) = w6 at *
      obtain ⟨q0, q1, q2, q3, q4, q5, q6⟩ := HF6.out.cells
      obtain ⟨r0, r1, r2, r3, r4, r5, r6⟩ := HF6.out.rcells
      have fr := HF6.out.rfree
      go_wp2_with fail
      obtain ⟨W, hW⟩ : ∃ x, ((((((w6.setCell ⟨w.heap.size + 1, 0, none⟩ (.slice af s.files.length cf)).setCell ⟨w.heap.size + 1, 1, none⟩ (.slice an s.now.length cn)).setCell ⟨w.heap.size + 1, 2, none⟩ (.slice az2 m cs2)).setCell ⟨w.heap.size + 1, 3, none⟩ (.slice a9 (s.acts.length - k) c9)).setCell ⟨w.heap.size + 1, 4, none⟩ (.int .i64 room)).setCell ⟨w.heap.size + 1, 5, none⟩ (.int .i64 steps)).setCell ⟨w.heap.size + 1, 6, none⟩ (.int .i64 l) = x := ⟨_, rfl⟩
      rw [hW]
      obtain ⟨hX, hP, hB⟩ := HF6.out.fin hW
      have PW := Lib.hid hP
      have BW := Lib.hid hB
      clear hW hP hB q0 q1 q2 q3 q4 q5 q6 r0 r1 r2 r3 r4 r5 r6 fr
      obtain ⟨q0, q1, q2, q3, q4, q5, q6⟩ := hX.cells
      clear hX
      refine bodyPost_ret (v := .agg #[.slice af s.files.length cf, .slice an s.now.length cn, .slice az2 m cs2, .slice a9 (s.acts.length - k) c9, .int .i64 room, .int .i64 steps, .int .i64 l]) (by simp [results, Tryz.results52, go_sem, q0, q1, q2, q3, q4, q5, q6]) rfl ⟨_, _, rfl, ?_, BW.out⟩
      have hz6 := P6.out.size
      have hzw := PW.out.size
      have hS : ∀ k, S k → (S k ∨ (w.heap.size ≤ k ∧ k < W.heap.size)) ∧ W.heap[k]? = w.heap[k]? := fun k hk => ⟨Or.inl hk, BW.out.block k (HS.out k hk)⟩
      refine ⟨HH.out.files.kept hS, HH.out.now.kept hS, ?_, ?_⟩
      · refine CellsC.kept N6.out (fun q hq => ?_)
        rcases hq with hq | hq
        · exact ⟨(hS q hq).1, (hS q hq).2.trans (hF.out.below.block q (HS.out q hq)).symm⟩
        · exact ⟨Or.inr ⟨by omega, by omega⟩, (PW.out.far q (by omega)).trans (P6.out.far q (by omega))⟩
      · show CellsC _ W _ (s.acts.drop k).length 3 (acR (s.acts.drop k))
        rw [List.length_drop]
        exact HC9.out.kept hS
end Go.Proofs.YtjefcalndfcmdaaGreatDoor
