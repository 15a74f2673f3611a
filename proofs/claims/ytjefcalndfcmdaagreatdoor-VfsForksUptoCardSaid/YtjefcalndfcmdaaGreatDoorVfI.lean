/- A file cut off, appended to, read. -/
import Derived.Test.YtjefcalndfcmdaaGreatDoorVfH
namespace Go.Proofs.YtjefcalndfcmdaaGreatDoor
open Go.RowKit Go.Maps
set_option maxRecDepth 100000 in
set_option maxHeartbeats 1000000 in
theorem clone_any (S : Nat → Prop) (v : Value) (l : List UInt8) (w : World) (hl : l.length ≤ 4194304) (hS : ∀ k, S k → k < w.heap.size) (hb : BytesC S w v l) :
    Calls Tryz.prog 37 #[v] w fun e w' => ∃ v', e = .returned v' ∧ Own w' w.heap.size v' l ∧ Below w.heap.size w w' := by
  obtain ⟨i0, hi, hz0, hz1, hz2⟩ := info_parts Tryz.info5
  have hb2 : BytesC S (w.alloc (.cells #[] 5)) v l := hb.kept (fun k hk => ⟨hk, Below.heap_alloc w _ k (hS k hk)⟩)
  have hq := run_eql_nil
  rcases hb with ⟨rfl, rfl⟩ | ⟨a, cap, rfl, hcap, hcm, hSa, hcells⟩
  · clear hb2
    go_enter Tryz.func37, Tryz.ntmps37
    go_wp2_with fail
    go_ret
    exact ⟨_, rfl, own_nil _ _, Below.refl _ _⟩
  · have HB := Lib.hid hb2
    have HO := Lib.hid (own_empty w)
    clear hcells hb2
    go_enter Tryz.func37, Tryz.ntmps37
    go_wp2_with (at_builtin; refine wpList_own_src _ rfl _ _ 35 35 rfl w.heap.size 5 i0 (.int .u8 0) 1 1 Tryz.underlying35 hi hz0 hz1 hz2 rfl (by decide) _ _ _ rfl HO.out _ _ _ rfl HB.out.srcC ?c3 ?c4 ?c5 ?_)
    case c3 => simp; unfold maxLen; omega
    case c4 => simp; omega
    case c5 => simp
    intro v2 w2 hown2 hg2
    have hown : Own w2 w.heap.size v2 l := own_more' (l := []) (by simp) hown2
    have hgr := ((Grew.alloc w (.slice (some ⟨w.heap.size, 0, none⟩) 0 0) _).trans hg2)
    have hbl : Below w.heap.size w w2 := (Below.refl _ w).grown hgr.gb (Nat.le_refl _) (fun k hk => by simp [Value.ownBlock] at hk; omega)
    have HV := Lib.hid hown
    have HBL := Lib.hid hbl
    clear hown hgr hbl hown2 hg2
    go_wp2_with fail
    go_ret
    exact ⟨v2, rfl, HV.out, HBL.out⟩
set_option maxRecDepth 100000 in
set_option maxHeartbeats 2000000 in
theorem cut_any {B : Nat} {X : FsX} {w : World} {bf : Nat} {s : Fs} (h : FsAt B X w bf s) (ok : FsOk s) (hs : s.steps ≤ 16777214) (x : Nm) (hx : x.length ≤ 4194304) (n : Int) :
    Calls Tryz.prog 27 #[.pointer (some ⟨bf, 0, none⟩), .string ⟨x.toArray⟩, .int .i64 n] w (FsP B X w bf (.int .i64 (cutS s x n).2) (cutS s x n).1) := by
  have H := Lib.hid h
  have OK := Lib.hid ok
  obtain ⟨r, hr⟩ : ∃ r, cutS s x n = r := ⟨_, rfl⟩
  have HR := Lib.hid hr
  rw [hr]
  obtain ⟨_, _, c2, _⟩ := h.cells
  have hl := h.mn.look hx
  clear h ok hx hr
  cases hf : fnd s.now x with
  | none =>
    rw [fndV_none hf] at hl
    have HF := Lib.hid hf
    clear hf
    go_enter Tryz.func27, Tryz.ntmps27
    go_wp2_with fail
    go_ret
    have e : r = (s, 4) := by rw [← HR.out]; unfold cutS; rw [HF.out]
    rw [e]
    exact ⟨rfl, X, H.out, FsUp.refl _ _ _⟩
  | some i =>
    rw [fndV_some hf] at hl
    have HF := Lib.hid hf
    have HR2 : Hid (r = if n < 0 ∨ ((s.files.getD i noFi).data.length : Int) < n then (s, 1) else if s.more = 0 then (s, 190) else (putF (tick s) i ⟨(s.files.getD i noFi).data.take n.toNat, n.toNat⟩, 0)) := Lib.hid (by rw [← HR.out]; unfold cutS; rw [hf])
    clear hf
    have HL : Hid (Live s i) := Lib.hid (OK.out.live (fnd_mem HF.out))
    have HFI := Lib.hid (H.out.fil i HL.out)
    obtain ⟨sa, sc, hdv⟩ := HFI.out.shape
    obtain ⟨k0, _⟩ := HFI.out.cells
    rw [hdv] at k0
    have HML : Hid ((s.files.getD i noFi).data.length ≤ 4194304) := Lib.hid (OK.out.dat _ (getD_mem (OK.out.nowOk.lt _ (fnd_mem HF.out)))).2
    obtain ⟨m, hmm⟩ : ∃ m, (s.files.getD i noFi).data.length = m := ⟨_, rfl⟩
    rw [hmm] at k0 HML HR2 hdv
    have HDV := Lib.hid hdv
    have HMM := Lib.hid hmm
    have hml := HML.out
    clear hdv hmm
    by_cases hn : n < 0 ∨ (m : Int) < n
    · have HN := Lib.hid hn
      by_cases h1 : n < 0
      · have g1 : decide (n < 0) = true := decide_eq_true h1
        go_enter Tryz.func27, Tryz.ntmps27
        go_wp2_with fail
        go_ret
        rw [HR2.out, if_pos HN.out]
        exact ⟨rfl, X, H.out, FsUp.refl _ _ _⟩
      · have g1 : decide (n < 0) = false := decide_eq_false h1
        have g2 : decide (n > (m : Int)) = true := decide_eq_true (by omega)
        clear hn
        go_enter Tryz.func27, Tryz.ntmps27
        go_wp2_with fail
        go_ret
        rw [HR2.out, if_pos HN.out]
        exact ⟨rfl, X, H.out, FsUp.refl _ _ _⟩
    · obtain ⟨k, rfl⟩ : ∃ k : Nat, n = (k : Int) := ⟨n.toNat, by omega⟩
      have hkm : k ≤ m := by omega
      have HN := Lib.hid hn
      have g1 : decide ((k : Int) < 0) = false := decide_eq_false (by omega)
      have g2 : decide (m < k) = false := decide_eq_false (by omega)
      have g3 : decide ((k : Int) > (m : Int)) = false := decide_eq_false (by omega)
      clear hn
      by_cases hm : s.more = 0
      · have HM := Lib.hid hm
        clear hm
        go_enter Tryz.func27, Tryz.ntmps27
        go_wp2_with fail
        refine (step_cut H.out HM.out).mono ?_
        rintro e w1 ⟨rfl, rfl⟩
        go_wp2_with fail
        go_ret
        rw [HR2.out, if_neg HN.out, if_pos HM.out]
        exact ⟨rfl, X, H.out, FsUp.refl _ _ _⟩
      · have HM := Lib.hid hm
        clear hm
        go_enter Tryz.func27, Tryz.ntmps27
        go_wp2_with fail
        refine (step_ok H.out OK.out (by omega) HM.out).mono ?_
        rintro e w1 ⟨rfl, hh1, al1⟩
        have H1 := Lib.hid hh1
        have A1 := Lib.hid al1
        clear hh1 al1 c2 hl k0 g1 g2 g3
        have HFI1 := Lib.hid (H1.out.fil i HL.out)
        have hu := H1.out.used_le OK.out.tick (by show s.steps + 1 ≤ _; omega)
        have hmu : m ≤ used (tick s) := by rw [← HMM.out]; exact used_mem HF.out
        obtain ⟨u, hue⟩ : ∃ u, used (tick s) = u := ⟨_, rfl⟩
        have HUE := Lib.hid hue
        rw [hue] at hu hmu
        clear hue
        go_wp2_with fail
        have hq : w1.drewN 1 = w1.drew := rfl
        have hd := H1.out.drew 1
        rw [hq] at hd
        obtain ⟨_, c1, _⟩ := hd.cells
        rw [HUE.out] at c1
        have f1 := hd.free 1
        have k0 : w1.drew.cell? ⟨X.fb i, 0, none⟩ = some (X.dv i) := HFI1.out.cells.1
        rw [HDV.out] at k0
        clear hd hq
        have hw1 : IntKind.i64.wrap ((m : Int) - (k : Int)) = (m : Int) - (k : Int) := IntWalk.i64_in _ (by omega)
        have hw2 : IntKind.i64.wrap ((u : Int) - ((m : Int) - (k : Int))) = (u : Int) - ((m : Int) - (k : Int)) := IntWalk.i64_in _ (by omega)
        go_still_tail 14, (by kernel_rfl)
        change wpList _ _ _ _ _ w1.drew
        have EB : Hid (∀ q : Nat, w1.drew.heap[q]? = w1.heap[q]?) := Lib.hid (fun _ => rfl)
        have A2 : Hid (Alone bf w1 w1.drew) := Lib.hid (Alone.drewN bf w1 1)
        generalize w1.drew = w2 at *
        go_upto_region 10 with fail
        clear c1 f1 k0 hw1 hw2
        have hset : ∀ q, q ≠ bf → (w2.setCell ⟨bf, 1, none⟩ (.int .i64 ((u : Int) - ((m : Int) - (k : Int))))).heap[q]? = w1.heap[q]? := fun q hq => (Below.heap_setCell w2 _ _ q hq).trans (EB.out q)
        have HSET := Lib.hid hset
        have HBF : Hid ((w2.setCell ⟨bf, 1, none⟩ (.int .i64 ((u : Int) - ((m : Int) - (k : Int))))).heap[bf]? = _) := Lib.hid (cells_set ((EB.out bf).trans H1.out.blk) _)
        have A3 := Lib.hid ((A2.out).trans (Alone.set bf 1 w2 (.int .i64 ((u : Int) - ((m : Int) - (k : Int))))))
        clear hset EB A2
        generalize w2.setCell ⟨bf, 1, none⟩ (.int .i64 ((u : Int) - ((m : Int) - (k : Int)))) = w3 at *
        have hne : X.fb i ≠ bf := fun e => by have := HFI1.out.tb; rw [e, H1.out.tf] at this; cases this
        have HNE := Lib.hid hne
        have HCUT := Lib.hid (fcut_any (B := B) (n := k) (l := (s.files.getD i noFi).data) ((HSET.out _ hne).trans HFI1.out.blk) (HFI1.out.row.kept A3.out.size (fun q e => HSET.out q (fun e2 => by have h1 := HFI1.out.tv q e; rw [e2, H1.out.tf] at h1; cases h1))) (by rw [HMM.out]; exact hkm) (by rw [HMM.out]; exact hml) (fun q e e2 => by have h1 := HFI1.out.tv q e; rw [e2, HFI1.out.tb] at h1; cases h1))
        clear hne
        go_wp2_with fail
        refine HCUT.out.mono ?_
        rintro e w4 ⟨rfl, v4, hb4, hr4, ho4, al4⟩
        have B4 := Lib.hid hb4
        have R4 := Lib.hid hr4
        have O4 := Lib.hid ho4
        have A4 := Lib.hid al4
        clear hb4 hr4 ho4 al4 HCUT
        go_wp2_with fail
        go_ret
        rw [HR2.out, if_neg HN.out, if_neg HM.out]
        have hkt : ((k : Int)).toNat = k := by omega
        rw [hkt]
        have hus : used (putF (tick s) i ⟨(s.files.getD i noFi).data.take k, k⟩) + m = u + k := by
          have h1 := used_put OK.out.tick HF.out ⟨(s.files.getD i noFi).data.take k, k⟩
          have h2 : ((s.files.getD i noFi).data.take k).length = k := by rw [List.length_take, HMM.out]; omega
          have h3 : used (putF (tick s) i ⟨(s.files.getD i noFi).data.take k, k⟩) + (s.files.getD i noFi).data.length = used (tick s) + ((s.files.getD i noFi).data.take k).length := h1
          rw [h2, HMM.out, HUE.out] at h3
          exact h3
        have hB := H1.out.dom (X.fb i) (by rw [HFI1.out.tb]; exact fun c => by cases c)
        have hz3 := A3.out.size
        have hz4 := A4.out.size
        have hz1 := A1.out.size
        obtain ⟨X', q1, _, q3⟩ := FsAt.putFile (wF := w4) (f := ⟨(s.files.getD i noFi).data.take k, k⟩) (v' := v4) H1.out HL.out (OK.out.live_lt HL.out) (by omega)
          (fun q hq h1 h2 _ => (A4.out.block q (by omega) (fun e => h2 (by rw [e]; exact HFI1.out.tb))).trans (HSET.out q (fun e => h1 (by rw [e]; exact H1.out.tf))))
          (by
            rw [A4.out.block bf (by have := H1.out.bfB.2; omega) (fun e => HNE.out e.symm), HBF.out]
            have e : (used (putF (tick s) i ⟨(s.files.getD i noFi).data.take k, k⟩) : Int) = (u : Int) - ((m : Int) - (k : Int)) := by omega
            unfold fsRow
            rw [e]; rfl)
          B4.out R4.out (fun q e => Or.inl (O4.out q e))
        refine ⟨rfl, X', q1, ⟨((A1.out.below H.out.bfB.1 H.out.baseB).trans (A3.out.below H.out.bfB.1 (by have := H.out.baseB; omega))).trans (A4.out.below hB.1 (by have := H.out.baseB; omega)), fun q hq ht => ?_, fun q hq => ?_⟩⟩
        · have h1 : q ≠ bf := fun e => by rw [e, H.out.tf] at ht; cases ht
          rw [A4.out.block q (by omega) (fun e => by rw [e, HFI1.out.tb] at ht; cases ht), HSET.out q h1, A1.out.block q hq h1]
        · rcases q3 q hq with h1 | h1
          · exact Or.inl h1
          · right; omega
end Go.Proofs.YtjefcalndfcmdaaGreatDoor
