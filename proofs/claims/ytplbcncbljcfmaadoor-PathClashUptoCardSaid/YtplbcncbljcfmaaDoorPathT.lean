/- The walks of the reference's Sorted and Clash. -/
import Derived.Test.YtplbcncbljcfmaaDoorPathS
import Derived.StillTailTactics
import Derived.IntWalk
namespace Go.Proofs.YtplbcncbljcfmaaDoor
open Go.RowKit Go.Lib

theorem StrsC.srcS {S : Nat → Prop} {w : World} {v : Value} {l : List Txt} (h : StrsC S w v l) : Src Tryd.prog 1 42 v l.length (sv l) w := by
  rcases h with ⟨rfl, a, c, rfl⟩ | ⟨a, cap, rfl, _, _, h3⟩
  · cases a with
    | none => exact Src.ofNil w Tryd.underlying42 c
    | some a => exact Src.ofSlice w Tryd.underlying42 a _ c _ rfl (fun j u hj => by simp [sv] at hj) (fun u hu => by simp [sv] at hu)
  · refine Src.ofSlice w Tryd.underlying42 a _ cap _ (by unfold sv; simp) (fun j u hj => ?_) (fun u hu => ?_)
    · unfold sv at hj
      rw [List.getElem?_map] at hj
      cases e : l[j]? with
      | none => rw [e] at hj; simp at hj
      | some x =>
        rw [e] at hj
        obtain ⟨hlt, hx⟩ := List.getElem?_eq_some_iff.1 e
        rw [h3 j hlt, ← hj, getD_at hlt, hx]; rfl
    · unfold sv at hu
      obtain ⟨x, _, rfl⟩ := List.mem_map.1 hu
      rfl
theorem StrsC.take {S : Nat → Prop} {w : World} {a : Addr} {l : List Txt} {cap : Nat} (h : StrsC S w (.slice (some a) l.length cap) l) (j : Nat) (hj : j ≤ l.length) : StrsC S w (.slice (some a) j cap) (l.take j) := by
  have e : (l.take j).length = j := by rw [List.length_take]; omega
  rcases h with ⟨h0, _⟩ | ⟨a', cap', h1, h2, h3, h4⟩
  · refine Or.inl ⟨by rw [h0]; simp, some a, cap, ?_⟩
    rw [h0] at hj; simp at hj; rw [hj]
  · injection h1 with h1 _ h1'
    injection h1 with h1
    subst h1 h1'
    refine Or.inr ⟨a, cap, by rw [e], h2, by omega, fun i hi => ?_⟩
    rw [e] at hi
    rw [h4 i (by omega)]
    simp [List.getD, hi]
theorem und_strs : Tryd.prog.underlying 42 = some (.slice (Tryd.prog.elem 42)) := by kernel_rfl
theorem elem_strs : Tryd.prog.elem 42 = 9 := by kernel_rfl
/-- A slice of texts cut at its beginning, whether anything is left or not. -/
theorem tail_strs {S : Nat → Prop} {w : World} {aa : Addr} {q : List Txt} {qc n : Nat} (h : StrsC S w (.slice (some aa) q.length qc) q) (hn : n ≤ q.length) (hqc : q.length ≤ qc) :
    ∃ (a' : Option Addr) (c' : Nat), (∀ W, (Instr.sliceAt 42 (.slice (some aa) q.length qc) (some (.int .i64 (n : Int))) none none).run Tryd.prog W = .ok (.slice a' (q.drop n).length c') W) ∧ StrsC S w (.slice a' (q.drop n).length c') (q.drop n) := by
  have hq : (q.drop n).length = q.length - n := List.length_drop
  have hrun : ∀ W, (Instr.sliceAt 42 (.slice (some aa) q.length qc) (some (.int .i64 (n : Int))) none none).run Tryd.prog W = .ok (.slice (if qc = n then some aa else some (aa.add n)) (q.drop n).length (qc - n)) W := by
    intro W
    rw [run_sliceAt_slice W _ _ _ _ _ und_strs, run_slice_l W _ _ _ _ und_strs _ _ (by omega) (by omega), elem_strs, Tryd.sizeOf9]
    simp [sliced, Result.andThen, hq]
  refine ⟨_, _, hrun, ?_⟩
  by_cases hd0 : q.drop n = []
  · rw [hd0]; exact Or.inl ⟨rfl, _, _, rfl⟩
  · have hlt : n < q.length := by
      rcases Nat.lt_or_ge n q.length with h | h
      · exact h
      · exact absurd (List.drop_eq_nil_of_le h) hd0
    rcases h with ⟨h0, _⟩ | ⟨a1, c1, h1, h2, h3, h4⟩
    · rw [h0] at hlt; simp at hlt
    · injection h1 with h1 _ h1'
      injection h1 with h1
      subst h1 h1'
      rw [if_neg (by omega)]
      refine Or.inr ⟨aa.add n, qc - n, rfl, by rw [add_block]; exact h2, by omega, fun i hi => ?_⟩
      rw [Go.Deep.add_add, h4 (n + i) (by omega)]
      simp [List.getD]
theorem own_base {w : World} {B B' : Nat} {v : Value} {l : List Txt} (h : OwnS w B v l) (hb : B' ≤ B) : OwnS w B' v l := by
  refine ⟨h.1, ?_⟩
  rcases h.2 with h | ⟨g, cap, cur, h1, h2, h3⟩
  · exact Or.inl h
  · exact Or.inr ⟨g, cap, cur, h1, Nat.le_trans hb h2, h3⟩
theorem ownS_at {w : World} {B : Nat} {v : Value} {l : List Txt} (h : OwnS w B v l) (hl : 0 < l.length) : ∃ ga cap, v = .slice (some ga) l.length cap ∧ l.length ≤ cap ∧ cap ≤ 9223372036854775807 := by
  rcases h.2 with ⟨_, h0⟩ | ⟨g, cap, cur, h1, _, _, h4, h5, _⟩
  · omega
  · unfold maxLen at h5
    exact ⟨_, cap, h1, h4, h5⟩
theorem ownS_more {w2 : World} {B n : Nat} {v : Value} {l r : List Txt} (hn : n = l.length + r.length) (h : w2.ownsRow B 9 1 v n (sv l ++ sv r)) : OwnS w2 B v (l ++ r) := by
  unfold OwnS
  rw [sv_append, List.length_append, ← hn]; exact h
def StopAt (x : Txt) (o : List Txt) (j : Nat) : Prop := j = 0 ∨ 0 ≤ cmpP x (o.getD (j - 1) [])
def GtAll (x : Txt) (o : List Txt) (j : Nat) : Prop := ∀ i, j ≤ i → i < o.length → cmpP x (o.getD i []) < 0
set_option maxRecDepth 100000 in
set_option maxHeartbeats 8000000 in
theorem rsorted_any (S : Nat → Prop) (v : Value) (l : List Txt) (w : World) (hS : ∀ k, S k → k < w.heap.size) (h : StrsC S w v l) (hl : l.length ≤ 4194304) (hx : ∀ j, j < l.length → (l.getD j []).length ≤ 4194304) :
    Calls Tryd.prog 44 #[v] w fun e w' => ∃ v', e = .returned v' ∧ OwnS w' w.heap.size v' (sortP l) ∧ Below w.heap.size w w' := by
  obtain ⟨i0, hi, hz0, hz1, hz2⟩ := info_parts Tryd.info9s
  have HS := Lib.hid hS
  have H := Lib.hid h
  have HX := Lib.hid hx
  obtain ⟨a, c, rfl⟩ := h.shape
  have HO := Lib.hid (ownS_empty w)
  have HB := Lib.hid ((Below.refl w.heap.size w).alloc (Nat.le_refl _) (.cells #[] 9))
  clear h hS hx
  go_enter Tryd.func44, Tryd.ntmps44
  go_wp2_with fail
  generalize w.alloc (.cells #[] 9) = w1 at *
  go_loopw [3, 4] (fun s i wr => ∃ (k : Nat) (ga : Addr) (cap : Nat) (o : List Txt), k ≤ l.length ∧ o.length = k ∧ k ≤ cap ∧ cap ≤ 9223372036854775807 ∧ i = .int .i64 k ∧ s = .slice (some ga) k cap ∧ Hid (o.Perm (l.take k)) ∧ Hid (o.Pairwise fun a b => cmpP a b ≤ 0) ∧ Hid (OwnS wr w.heap.size (.slice (some ga) k cap) o) ∧ Hid (Below w.heap.size w wr)) (fun _ i _ => l.length - (intOf i).toNat)
  case atStart => exact ⟨0, ⟨w.heap.size, 0, none⟩, 0, [], Nat.zero_le _, rfl, Nat.le_refl _, by omega, rfl, rfl, Lib.hid (by simp), Lib.hid List.Pairwise.nil, HO, HB⟩
  case round =>
    obtain ⟨k, ga, cap, o, hk, hok, hkc, hcm, rfl, rfl, hpm, hst, O, B⟩ := hrel
    obtain ⟨wo, hwo⟩ : ∃ wo : World, wo = wr := ⟨_, rfl⟩
    clear hwo HO HB
    by_cases hlt : k < l.length
    · have HXK := Lib.hid (HX.out k hlt)
      have HOX : Hid (∀ j, j < o.length → (o.getD j []).length ≤ 4194304) := Lib.hid (fun j hj => by
        have hm : o.getD j [] ∈ l := by
          rw [getD_at hj]
          exact List.mem_of_mem_take (hpm.out.mem_iff.1 (List.getElem_mem hj))
        obtain ⟨i, hi, e⟩ := List.mem_iff_getElem.1 hm
        have := HX.out i hi
        rwa [getD_at hi, e] at this)
      obtain ⟨b, rfl, hbS, _, hbc⟩ := H.out.at (by omega)
      have hblk := HS.out _ hbS
      have HBC := Lib.hid (hbc k hlt)
      have HTS := Lib.hid (take_snoc hlt)
      have HOK := Lib.hid hok
      generalize l.getD k [] = x at *
      clear hok hbS hbc
      go_wp2_with fail
      go_loopw [5] (fun t wq => ∃ (j : Nat), j ≤ k ∧ t = .int .i64 j ∧ Hid (GtAll x o j) ∧ Hid (OwnS wq w.heap.size (.slice (some ga) k cap) o) ∧ Hid (Below w.heap.size w wq)) (fun t _ => (intOf t).toNat)
      case atStart => exact ⟨k, Nat.le_refl _, rfl, Lib.hid (fun i h1 h2 => by have := HOK.out; omega), O, B⟩
      case round =>
        obtain ⟨j, hj, rfl, hgt, O2, B2⟩ := hrel
        by_cases hstop : j = 0 ∨ 0 ≤ cmpP x (o.getD (j - 1) [])
        · have HJ : Hid (j = 0 ∨ 0 ≤ cmpP x (o.getD (j - 1) [])) := Lib.hid hstop
          have hjn := hj
          by_cases hj0 : j = 0
          all_goals
            first
              | (have gd : decide ((0 : Int) < (j : Int)) = false := decide_eq_false (by omega)
                 clear hstop
                 go_wp2_with fail
                 go_quiet (fail)
                 have O3 : Hid (OwnS (wr.drewN nq) w.heap.size (.slice (some ga) k cap) o) := Lib.hid (own_below O2.out (fun _ _ _ => rfl))
                 have B3 := Lib.hid (B2.out.trans (drewn w.heap.size wr nq))
                 clear gd O2 B2 hj0
                 generalize wr.drewN nq = wz at *)
              | (obtain ⟨m, rfl⟩ : ∃ m, j = m + 1 := ⟨j - 1, by omega⟩
                 have hnc : 0 ≤ cmpP x (o.getD m []) := by
                   rcases hstop with h | h
                   · omega
                   · exact h
                 have hs2 := ownS_c O2.out
                 rw [← HOK.out] at hs2
                 obtain ⟨b2, hb2, _, _, hb3⟩ := hs2.at (by have := HOK.out; omega)
                 cases hb2
                 have c1 := (B2.out.cell (p := b.add k) (by rw [add_block]; exact hblk)).trans HBC.out
                 have c2 := hb3 m (by have := HOK.out; omega)
                 have HRC := Lib.hid (fun W => rcompare_any x (o.getD m []) W HXK.out (HOX.out m (by have := HOK.out; omega)))
                 have gd : decide ((0 : Int) < (m : Int) + 1) = true := decide_eq_true (by omega)
                 have hw1 : IntKind.i64.wrap ((m : Int) + 1 - 1) = (m : Int) := by rw [IntWalk.i64_in _ (by omega)]; omega
                 have hw2 : IntKind.i64.wrap (m : Int) = (m : Int) := IntWalk.i64_in _ (by omega)
                 have hmk : m < k := by omega
                 have O1 : Hid (OwnS (wr.drewN 1) w.heap.size (.slice (some ga) k cap) o) := Lib.hid (own_below O2.out (fun _ _ _ => rfl))
                 have B1 := Lib.hid (B2.out.trans (drewn w.heap.size wr 1))
                 generalize o.getD m [] = y at *
                 generalize cmpP x y = cm at *
                 clear hs2 hb3 hstop
                 go_wp2_with fail
                 go_still_tail 12, (by kernel_rfl)
                 change wpList _ _ _ _ _ (wr.drewN 1)
                 clear c1 c2 hw1 hw2 O2 B2
                 generalize wr.drewN 1 = wd at *
                 go_wp2_with fail
                 refine (HRC.out _).mono ?_
                 rintro e wz ⟨rfl, hb4⟩
                 have O3 : Hid (OwnS wz w.heap.size (.slice (some ga) k cap) o) := Lib.hid (own_below O1.out (fun j _ h2 => hb4.block j h2))
                 have B3 := Lib.hid (B1.out.trans (hb4.mono B1.out.size))
                 have gc : decide (cm < 0) = false := decide_eq_false (by omega)
                 clear hb4 O1 B1 hnc hj0
                 generalize hmj : m + 1 = j at *
                 have hmj' : (m : Int) + 1 = (j : Int) := by omega
                 rw [hmj']
                 clear hmj hmj')
          all_goals
            have HTK : Hid ((o.take j).length = j) := Lib.hid (by rw [List.length_take]; have := HOK.out; omega)
            have HDL : Hid ((o.drop j).length = k - j) := Lib.hid (by rw [List.length_drop, HOK.out])
            have hjc : j ≤ cap := by omega
            have HSZ := Lib.hid B3.out.size
            have HC3 : Hid (StrsC (fun q => w.heap.size ≤ q ∧ q < wz.heap.size) wz (.slice (some ga) o.length cap) o) := Lib.hid (by rw [HOK.out]; exact ownS_c O3.out)
            have HE0 := Lib.hid (ownS_empty wz)
            have SRC1 : Hid (Src Tryd.prog 1 42 (.slice (some ga) j cap) j (sv (o.take j)) (wz.alloc (.cells #[] 9))) := Lib.hid (by
              have h := ((StrsC.take HC3.out j (by have := HOK.out; omega)).kept (S' := fun q => w.heap.size ≤ q ∧ q < wz.heap.size) (w' := wz.alloc (.cells #[] 9)) (fun q hq => ⟨hq, Below.heap_alloc wz _ q hq.2⟩)).srcS
              rwa [HTK.out] at h)
            have HM1 : Hid (([] : List Txt).length + j ≤ maxLen) := Lib.hid (by unfold maxLen; simp; omega)
            have HM2 : Hid ((([] : List Txt).length + j) * 16 ≤ 140737488355328) := Lib.hid (by simp; omega)
            have HM3 : Hid (wz.heap.size ≤ (wz.alloc (.cells #[] 9)).heap.size) := Lib.hid (by simp)
            have HM4 : Hid ((o.take j).length + 1 ≤ maxLen) := Lib.hid (by rw [HTK.out]; unfold maxLen; omega)
            have HM5 : Hid (((o.take j).length + 1) * 16 ≤ 140737488355328) := Lib.hid (by rw [HTK.out]; omega)
            have HM7 : Hid ((o.take j ++ [x]).length + (o.drop j).length ≤ maxLen) := Lib.hid (by rw [List.length_append, HTK.out, HDL.out]; unfold maxLen; simp; omega)
            have HM8 : Hid (((o.take j ++ [x]).length + (o.drop j).length) * 16 ≤ 140737488355328) := Lib.hid (by rw [List.length_append, HTK.out, HDL.out]; simp; omega)
            obtain ⟨ta, tc, hts, htb⟩ := tail_strs HC3.out (n := j) (by have := HOK.out; omega) (by have := HOK.out; omega)
            rw [HOK.out] at hts
            have HTB := Lib.hid htb
            have HE : Hid (o.take j ++ [x] ++ o.drop j = insAt o x j) := Lib.hid (by simp [insAt])
            clear htb
            generalize o.take j = pa at *
            generalize o.drop j = qa at *
            go_wp2_with (at_builtin; refine wpList_own_src _ rfl _ _ 42 42 rfl wz.heap.size 9 i0 (.string ByteArray.empty) 1 16 Tryd.underlying42 hi hz0 hz1 hz2 rfl (by decide) _ _ _ rfl HE0.out _ j (sv (pa)) rfl SRC1.out HM1.out HM2.out HM3.out ?_)
            intro v5 w5 hown5 hg5
            have O5 : Hid (OwnS w5 wz.heap.size v5 (pa)) := Lib.hid (ownS_more (l := []) (by rw [HTK.out]; simp) hown5)
            have B5 : Hid (Below wz.heap.size wz w5) := Lib.hid (((Below.refl wz.heap.size wz).alloc (Nat.le_refl _) _).grown hg5.gb (by simp) (fun q hq => by simp [Value.ownBlock] at hq; omega))
            have c5 := ((B3.out.trans (B5.out.mono HSZ.out)).cell (p := b.add k) (by rw [add_block]; exact hblk)).trans HBC.out
            have HM6 : Hid (wz.heap.size ≤ (w5.alloc (.cells #[.string ⟨x.toArray⟩] 9)).heap.size) := Lib.hid (by have := B5.out.size; simp; omega)
            clear hown5 hg5
            go_wp2_with (at_builtin; refine wpList_own_src _ rfl _ _ 42 42 rfl wz.heap.size 9 i0 (.string ByteArray.empty) 1 16 Tryd.underlying42 hi hz0 hz1 hz2 rfl (by decide) _ _ _ rfl (World.ownsRow.alloc O5.out _) _ 1 [.string ⟨x.toArray⟩] rfl (srcS_one _ _) HM4.out HM5.out HM6.out ?_)
            intro v6 w6 hown6 hg6
            have O6 : Hid (OwnS w6 wz.heap.size v6 (pa ++ [x])) := Lib.hid (ownS_push hown6)
            have B6 : Hid (Below wz.heap.size wz w6) := Lib.hid ((B5.out.alloc B5.out.size _).grown hg6.gb HM6.out (fun q hq => (World.ownsRow.lt O5.out q hq).1))
            have SRC7 : Hid (Src Tryd.prog 1 42 (.slice ta (qa).length tc) (qa).length (sv (qa)) w6) := Lib.hid (HTB.out.kept (S' := fun q => w.heap.size ≤ q ∧ q < wz.heap.size) (w' := w6) (fun q hq => ⟨hq, B6.out.block q hq.2⟩)).srcS
            clear hown6 hg6 c5
            go_wp2_with (at_builtin; refine wpList_own_src _ rfl _ _ 42 42 rfl wz.heap.size 9 i0 (.string ByteArray.empty) 1 16 Tryd.underlying42 hi hz0 hz1 hz2 rfl (by decide) _ _ _ rfl O6.out _ (qa).length (sv (qa)) rfl SRC7.out HM7.out HM8.out B6.out.size ?_)
            intro v7 w7 hown7 hg7
            have O7 : OwnS w7 w.heap.size v7 (insAt o x j) := by
              have h := own_base (ownS_more (l := pa ++ [x]) (r := qa) (by simp) hown7) HSZ.out
              rwa [HE.out] at h
            have B7 : Hid (Below wz.heap.size wz w7) := Lib.hid (B6.out.grown hg7.gb B6.out.size (fun q hq => (World.ownsRow.lt O6.out q hq).1))
            have hln : (insAt o x j).length = k + 1 := by
              have := (insAt_perm o x j).length_eq
              rw [this, List.length_append, HOK.out]; rfl
            obtain ⟨ga', cap', hv7, hc1, hc2⟩ := ownS_at O7 (by omega)
            rw [hln] at hv7 hc1
            subst hv7
            have HO7 := Lib.hid O7
            have HLN := Lib.hid hln
            clear hown7 hg7 hts O7 hln
            go_wp2_with fail
            go_roundw
            case rel => exact ⟨k + 1, ga', cap', insAt o x j, by omega, HLN.out, hc1, hc2, by go_num, rfl, Lib.hid ((insAt_perm o x j).trans (by rw [HTS.out]; exact hpm.out.append_right [x])), Lib.hid (insAt_sorted hst.out hgt.out HJ.out (by have := HOK.out; omega)), HO7, Lib.hid (B3.out.trans (B7.out.mono HSZ.out))⟩
            case measure => simp [intOf]; omega
        · obtain ⟨m, rfl⟩ : ∃ m, j = m + 1 := ⟨j - 1, by omega⟩
          have hnc : cmpP x (o.getD m []) < 0 := by
            rcases Int.lt_or_le (cmpP x (o.getD m [])) 0 with h | h
            · exact h
            · exact absurd (Or.inr h) hstop
          have HG2 : Hid (GtAll x o m) := Lib.hid (fun i h1 h2 => by
            by_cases e : i = m
            · rw [e]; exact hnc
            · exact hgt.out i (by omega) h2)
          have hs2 := ownS_c O2.out
          rw [← HOK.out] at hs2
          obtain ⟨b2, hb2, _, _, hb3⟩ := hs2.at (by have := HOK.out; omega)
          cases hb2
          have c1 := (B2.out.cell (p := b.add k) (by rw [add_block]; exact hblk)).trans HBC.out
          have c2 := hb3 m (by have := HOK.out; omega)
          have HRC := Lib.hid (fun W => rcompare_any x (o.getD m []) W HXK.out (HOX.out m (by have := HOK.out; omega)))
          have gd : decide ((0 : Int) < (m : Int) + 1) = true := decide_eq_true (by omega)
          have hw1 : IntKind.i64.wrap ((m : Int) + 1 - 1) = (m : Int) := by rw [IntWalk.i64_in _ (by omega)]; omega
          have hw2 : IntKind.i64.wrap (m : Int) = (m : Int) := IntWalk.i64_in _ (by omega)
          have hmk : m < k := by omega
          have O1 : Hid (OwnS (wr.drewN 1) w.heap.size (.slice (some ga) k cap) o) := Lib.hid (own_below O2.out (fun _ _ _ => rfl))
          have B1 := Lib.hid (B2.out.trans (drewn w.heap.size wr 1))
          generalize o.getD m [] = y at *
          generalize cmpP x y = cm at *
          clear hs2 hb3 hstop
          go_wp2_with fail
          go_still_tail 12, (by kernel_rfl)
          change wpList _ _ _ _ _ (wr.drewN 1)
          clear c1 c2 hw1 hw2 O2 B2
          generalize wr.drewN 1 = wd at *
          go_wp2_with fail
          refine (HRC.out _).mono ?_
          rintro e wz ⟨rfl, hb4⟩
          have O3 : Hid (OwnS wz w.heap.size (.slice (some ga) k cap) o) := Lib.hid (own_below O1.out (fun j _ h2 => hb4.block j h2))
          have B3 := Lib.hid (B1.out.trans (hb4.mono B1.out.size))
          have gc : decide (cm < 0) = true := decide_eq_true hnc
          clear hb4 O1 B1 hnc
          go_wp2_with fail
          go_roundw
          case rel => exact ⟨m, by omega, rfl, HG2, O3, B3⟩
          case measure => simp [intOf]
    · have hkl : k = l.length := by omega
      have HQ : Hid (o = sortP l) := Lib.hid (sorted_unique ((by have := hpm.out; rwa [hkl, List.take_length] at this : o.Perm l).trans (sortP_perm l).symm) hst.out (sortP_sorted l))
      clear hkl
      go_wp2_with fail
      go_ret
      exact ⟨_, rfl, by rw [← HQ.out]; exact O.out, B.out⟩
end Go.Proofs.YtplbcncbljcfmaaDoor
