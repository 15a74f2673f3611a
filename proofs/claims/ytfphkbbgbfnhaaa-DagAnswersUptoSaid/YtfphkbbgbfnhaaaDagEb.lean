/- The reference's Ancestors, Comes, Missing. -/
import Derived.Test.YtfphkbbgbfnhaaaDagEa
namespace Go.Proofs.Ytfphkbbgbfnhaaa
open Go.RowKit Go.Shelf Go.Maps Go.Lib Go.Sort

theorem own_lower {w : World} {B B' : Nat} {v : Value} {l : List Txt} (h : OwnS w B v l) (hb : B' ≤ B) : OwnS w B' v l := by
  refine ⟨h.1, ?_⟩
  rcases h.2 with h2 | ⟨g, cap, cur, h1, h2, h3, h4⟩
  · exact Or.inl h2
  · exact Or.inr ⟨g, cap, cur, h1, Nat.le_trans hb h2, h3, h4⟩
/-- Names of those that are marked. -/
def pickN (g : Gr) (f : Nat → Bool) (k : Nat) : List Txt := ((List.range k).filter f).map (nmOf g)
theorem pickN_succ (g : Gr) (f : Nat → Bool) (k : Nat) : pickN g f (k + 1) = if f k = true then pickN g f k ++ [nmOf g k] else pickN g f k := by
  unfold pickN
  rw [List.range_succ, List.filter_append]
  by_cases h : f k = true
  · rw [if_pos h, List.filter_cons_of_pos h, List.filter_nil, List.map_append]; rfl
  · rw [if_neg h, List.filter_cons_of_neg h, List.filter_nil, List.append_nil]
theorem pickN_len (g : Gr) (f : Nat → Bool) (k : Nat) : (pickN g f k).length ≤ k := by
  unfold pickN
  rw [List.length_map]
  have := List.length_filter_le f (List.range k)
  rwa [List.length_range] at this
open Classical in
theorem reach_nil (g : Gr) (i : Nat) : reachB g (begF g []) i = false := by
  unfold reachB
  rw [decide_eq_false_iff_not]
  exact from_nil
theorem anc_pick (g : Gr) (l : List Txt) : missN g l [] = pickN g (reachB g (begF g l)) g.length := by
  unfold missN pickN
  congr 1
  apply List.filter_congr
  intro i _
  rw [reach_nil]; simp
theorem miss_pick (g : Gr) (l m : List Txt) : missN g l m = pickN g (fun i => reachB g (begF g l) i && !reachB g (begF g m) i) g.length := rfl
set_option maxRecDepth 100000 in
set_option maxHeartbeats 8000000 in
theorem ranc_any (S S2 : Nat → Prop) (v v2 : Value) (g : Gr) (l : List Txt) (w : World) (hS : ∀ k, S k → k < w.heap.size) (h : NodesC S w v (refOf g)) (hg : Good g) (hgl : g.length ≤ 65536) (hpl : ∀ i, (psOf g i).length ≤ 4194304) (hS2 : ∀ k, S2 k → k < w.heap.size) (hv : StrsC S2 w v2 l) (hl : l.length ≤ 4194304) :
    Calls Try.prog 15 #[v, v2] w fun e w' => ∃ v', e = .returned v' ∧ OwnS w' w.heap.size v' (missN g l []) ∧ Below w.heap.size w w' := by
  obtain ⟨i0, hi, hz0, hz1, hz2⟩ := info_parts Try.info9s
  have HR := Lib.hid (rreached_any S S2 v v2 g l w hS h hg hgl hpl hS2 hv hl)
  obtain ⟨a, c, rfl⟩ := RowsC.shape h
  rw [refOf_len] at h HR ⊢
  have H := Lib.hid (fun (W : World) (hb : Below w.heap.size w W) => RowsC.kept node_keeps h (S' := S) (w' := W) (fun k hk => ⟨hk, hb.block k (hS k hk)⟩))
  obtain ⟨la, lc, rfl⟩ := hv.shape
  have HE := Lib.hid (anc_pick g l)
  clear h hv hg hpl hS hS2
  go_enter Try.func15, Try.ntmps15
  go_wp2_with fail
  refine HR.out.mono ?_
  rintro e w1 ⟨cb, rfl, hB, hcb, hb1⟩
  have HB := Lib.hid hB
  have B1 := Lib.hid hb1
  have hs1 := hb1.size
  have hcl := hB.lt
  generalize reachB g (begF g l) = f at *
  clear hB hb1 HR
  go_wp2_with fail
  go_loopw [6, 7] (fun o i wr => ∃ k : Nat, k ≤ g.length ∧ i = .int .i64 k ∧ Hid (OwnS wr w1.heap.size o (pickN g f k)) ∧ Hid (Below w1.heap.size w1 wr)) (fun _ i _ => g.length - (intOf i).toNat)
  case atStart => exact ⟨0, Nat.zero_le _, rfl, Lib.hid (ownS_nil _ _), Lib.hid (Below.refl _ _)⟩
  case round =>
    obtain ⟨k, hk, rfl, hO, hBl⟩ := hrel
    have hsz := hBl.out.size
    have hpk := pickN_len g f k
    have HT := Lib.hid (pickN_succ g f k)
    obtain ⟨oa, oc, rfl⟩ := ownS_slice hO.out
    by_cases hlt : k < g.length
    · have hbit := (World.cell?_of_block (w := w1) (a := ⟨cb, k, none⟩) (hBl.out.block cb hcl)).trans (HB.out.cs k hlt)
      obtain ⟨gg, go, rfl, _, hc1, hc2, hat⟩ := node_at (H.out wr (B1.out.trans (hBl.out.mono hs1))) (by omega)
      obtain ⟨pa, pc, n1, _, _⟩ := hat k hlt
      clear hat
      generalize pickN g f k = d at *
      generalize nmOf g k = nm at *
      obtain ⟨r, hr⟩ : ∃ r, f k = r := ⟨_, rfl⟩
      rw [hr] at hbit HT
      clear hr
      cases r
      · have HT2 : Hid (pickN g f (k + 1) = d) := Lib.hid (by rw [HT.out]; simp)
        clear HT
        go_wp2_with fail
        go_roundw
        case rel => exact ⟨k + 1, by omega, by go_num, by rw [HT2.out]; exact hO, hBl⟩
        case measure => simp [intOf]; omega
      · have HT2 : Hid (pickN g f (k + 1) = d ++ [nm]) := Lib.hid (by rw [HT.out]; simp)
        clear HT
        go_wp2_with (at_builtin; refine wpList_own_src _ rfl _ _ 23 23 rfl w1.heap.size 9 i0 (.string ByteArray.empty) 1 16 Try.underlying23 hi hz0 hz1 hz2 rfl (by decide) _ _ _ rfl (World.ownsRow.alloc hO.out _) _ 1 [.string ⟨nm.toArray⟩] rfl (srcS_one _ _) (by unfold maxLen; omega) (by omega) (by simp; omega) ?_)
        intro v5 w5 hown5 hg5
        have O5 : Hid (OwnS w5 w1.heap.size v5 (d ++ [nm])) := Lib.hid (ownS_push hown5)
        have B5 : Hid (Below w1.heap.size w1 w5) := Lib.hid ((hBl.out.alloc hBl.out.size _).grown hg5.gb (by simp; omega) (fun q hq => (World.ownsRow.lt hO.out q hq).1))
        clear hown5 hg5
        go_wp2_with fail
        go_roundw
        case rel => exact ⟨k + 1, by omega, by go_num, by rw [HT2.out]; exact O5, B5⟩
        case measure => simp [intOf]; omega
    · have hkk : k = g.length := by omega
      have HK := Lib.hid hkk
      clear hkk
      go_wp2_with fail
      go_ret
      refine ⟨_, rfl, own_lower ?_ hs1, B1.out.trans (hBl.out.mono hs1)⟩
      rw [HE.out, ← HK.out]; exact hO.out
theorem anc_in {g : Gr} (hg : Good g) (x y : Txt) : decide (y ∈ missN g [x] []) = comesB g x y := by
  rw [Bool.eq_iff_iff, decide_eq_true_eq, miss_mem, comes_iff hg]
  constructor
  · rintro ⟨i, h1, rfl, h3, _⟩
    rw [from_one hg] at h3
    rw [idx_nm hg h1]
    exact ⟨h3.1, h1, h3.2⟩
  · rintro ⟨h1, h2, h3⟩
    exact ⟨idxN g y, h2, nm_idx h2, (from_one hg).2 ⟨h1, h3⟩, from_nil⟩
set_option maxRecDepth 100000 in
set_option maxHeartbeats 4000000 in
theorem rcomes_any (S : Nat → Prop) (v : Value) (g : Gr) (x y : Txt) (w : World) (hS : ∀ k, S k → k < w.heap.size) (h : NodesC S w v (refOf g)) (hg : Good g) (hgl : g.length ≤ 65536) (hpl : ∀ i, (psOf g i).length ≤ 4194304) {r : Bool} (hr : comesB g x y = r) :
    Calls Try.prog 17 #[v, .string ⟨x.toArray⟩, .string ⟨y.toArray⟩] w fun e w' => e = .returned (.bool r) ∧ Below w.heap.size w w' := by
  have hB0 : Below w.heap.size w (w.alloc (.cells #[.string ⟨x.toArray⟩] 9)) := (Below.refl _ w).alloc (Nat.le_refl _) _
  have HA := Lib.hid (ranc_any S _ v _ g [x] (w.alloc (.cells #[.string ⟨x.toArray⟩] 9)) (fun k hk => Nat.lt_of_lt_of_le (hS k hk) hB0.size) (RowsC.kept node_keeps h (fun k hk => ⟨hk, hB0.block k (hS k hk)⟩)) hg hgl hpl in_alloc (strs_one w x) (by simp))
  have B0 := Lib.hid hB0
  have HIN := Lib.hid ((anc_in hg x y).trans hr)
  have HL : Hid ((missN g [x] []).length ≤ 4194304) := Lib.hid (by have := miss_len g [x] []; omega)
  obtain ⟨a, c, rfl⟩ := RowsC.shape h
  rw [refOf_len] at HA ⊢
  clear h hg hpl hr hB0 hS
  generalize missN g [x] [] = A at *
  go_enter Try.func17, Try.ntmps17
  go_wp2_with fail
  refine HA.out.mono ?_
  rintro e w1 ⟨v1, rfl, o1, b1⟩
  have O1 := Lib.hid (ownS_c o1)
  have B1 : Hid (Below w.heap.size w w1) := Lib.hid (B0.out.trans (b1.mono B0.out.size))
  obtain ⟨a1, c1, rfl⟩ := ownS_slice o1
  have HI := in_any _ (.slice a1 A.length c1) A y w1 O1.out HL.out
  rw [HIN.out] at HI
  have HI2 := Lib.hid HI
  clear o1 b1 HA HI
  go_wp2_with fail
  refine HI2.out.mono ?_
  rintro e w2 ⟨rfl, rfl⟩
  go_wp2_with fail
  go_ret
  exact ⟨rfl, B1.out⟩
set_option maxRecDepth 100000 in
set_option maxHeartbeats 8000000 in
theorem rmiss_any (S S2 S3 : Nat → Prop) (v v2 v3 : Value) (g : Gr) (l m : List Txt) (w : World) (hS : ∀ k, S k → k < w.heap.size) (h : NodesC S w v (refOf g)) (hg : Good g) (hgl : g.length ≤ 65536) (hpl : ∀ i, (psOf g i).length ≤ 4194304) (hS2 : ∀ k, S2 k → k < w.heap.size) (hv : StrsC S2 w v2 l) (hl : l.length ≤ 4194304)
    (hS3 : ∀ k, S3 k → k < w.heap.size) (hv3 : StrsC S3 w v3 m) (hm : m.length ≤ 4194304) :
    Calls Try.prog 23 #[v, v2, v3] w fun e w' => ∃ v', e = .returned v' ∧ OwnS w' w.heap.size v' (missN g l m) ∧ Below w.heap.size w w' := by
  obtain ⟨i0, hi, hz0, hz1, hz2⟩ := info_parts Try.info9s
  have HR := Lib.hid (rreached_any S S2 v v2 g l w hS h hg hgl hpl hS2 hv hl)
  have HR2 := Lib.hid (fun (W : World) (hb : Below w.heap.size w W) => rreached_any S S3 v v3 g m W (fun k hk => Nat.lt_of_lt_of_le (hS k hk) hb.size) (RowsC.kept node_keeps h (fun k hk => ⟨hk, hb.block k (hS k hk)⟩)) hg hgl hpl (fun k hk => Nat.lt_of_lt_of_le (hS3 k hk) hb.size) (hv3.kept (fun k hk => ⟨hk, hb.block k (hS3 k hk)⟩)) hm)
  obtain ⟨a, c, rfl⟩ := RowsC.shape h
  rw [refOf_len] at h HR HR2 ⊢
  have H := Lib.hid (fun (W : World) (hb : Below w.heap.size w W) => RowsC.kept node_keeps h (S' := S) (w' := W) (fun k hk => ⟨hk, hb.block k (hS k hk)⟩))
  obtain ⟨la, lc, rfl⟩ := hv.shape
  obtain ⟨ma, mc, rfl⟩ := hv3.shape
  have HE := Lib.hid (miss_pick g l m)
  clear h hv hv3 hg hpl hS hS2 hS3
  go_enter Try.func23, Try.ntmps23
  go_wp2_with fail
  refine HR.out.mono ?_
  rintro e w0 ⟨cx, rfl, hX, hcx, hb0⟩
  have HX0 := Lib.hid hX
  have B0 := Lib.hid hb0
  have hcxl := hX.lt
  have hs0 := hb0.size
  clear hX hb0 HR
  go_wp2_with fail
  refine (HR2.out w0 B0.out).mono ?_
  rintro e w1 ⟨cb, rfl, hB, hcb, hb1⟩
  have HX := Lib.hid (HX0.out.kept (hb1.block cx hcxl) hb1.size)
  have HB := Lib.hid hB
  have B1 := Lib.hid (B0.out.trans (hb1.mono hs0))
  have hs1 := B1.out.size
  have hcl := hB.lt
  have hcl2 := HX.out.lt
  generalize reachB g (begF g l) = f at *
  generalize reachB g (begF g m) = f2 at *
  clear hB hb1 HR2 HX0
  go_wp2_with fail
  go_loopw [9, 10] (fun o i wr => ∃ k : Nat, k ≤ g.length ∧ i = .int .i64 k ∧ Hid (OwnS wr w1.heap.size o (pickN g (fun i => f i && !f2 i) k)) ∧ Hid (Below w1.heap.size w1 wr)) (fun _ i _ => g.length - (intOf i).toNat)
  case atStart => exact ⟨0, Nat.zero_le _, rfl, Lib.hid (ownS_nil _ _), Lib.hid (Below.refl _ _)⟩
  case round =>
    obtain ⟨k, hk, rfl, hO, hBl⟩ := hrel
    have hsz := hBl.out.size
    have hpk := pickN_len g (fun i => f i && !f2 i) k
    have HT := Lib.hid (pickN_succ g (fun i => f i && !f2 i) k)
    obtain ⟨oa, oc, rfl⟩ := ownS_slice hO.out
    by_cases hlt : k < g.length
    · have hbit := (World.cell?_of_block (w := w1) (a := ⟨cx, k, none⟩) (hBl.out.block cx hcl2)).trans (HX.out.cs k hlt)
      have hbit2 := (World.cell?_of_block (w := w1) (a := ⟨cb, k, none⟩) (hBl.out.block cb hcl)).trans (HB.out.cs k hlt)
      obtain ⟨gg, go, rfl, _, hc1, hc2, hat⟩ := node_at (H.out wr (B1.out.trans (hBl.out.mono hs1))) (by omega)
      obtain ⟨pa, pc, n1, _, _⟩ := hat k hlt
      clear hat
      generalize hd : pickN g (fun i => f i && !f2 i) k = d at *
      generalize nmOf g k = nm at *
      have HTk : Hid (pickN g (fun i => f i && !f2 i) (k + 1) = if (f k && !f2 k) = true then d ++ [nm] else d) := HT
      obtain ⟨r, hr⟩ : ∃ r, f k = r := ⟨_, rfl⟩
      obtain ⟨r2, hr2⟩ : ∃ r, f2 k = r := ⟨_, rfl⟩
      rw [hr] at hbit HTk
      rw [hr2] at hbit2 HTk
      clear hr hr2 hd HT
      cases r
      · have HT2 : Hid (pickN g (fun i => f i && !f2 i) (k + 1) = d) := Lib.hid (by rw [HTk.out]; simp)
        clear HTk
        go_wp2_with fail
        go_roundw
        case rel => exact ⟨k + 1, by omega, by go_num, by rw [HT2.out]; exact hO, hBl⟩
        case measure => simp [intOf]; omega
      · cases r2
        · have HT2 : Hid (pickN g (fun i => f i && !f2 i) (k + 1) = d ++ [nm]) := Lib.hid (by rw [HTk.out]; simp)
          clear HTk
          go_wp2_with (at_builtin; refine wpList_own_src _ rfl _ _ 23 23 rfl w1.heap.size 9 i0 (.string ByteArray.empty) 1 16 Try.underlying23 hi hz0 hz1 hz2 rfl (by decide) _ _ _ rfl (World.ownsRow.alloc hO.out _) _ 1 [.string ⟨nm.toArray⟩] rfl (srcS_one _ _) (by unfold maxLen; omega) (by omega) (by simp; omega) ?_)
          intro v5 w5 hown5 hg5
          have O5 : Hid (OwnS w5 w1.heap.size v5 (d ++ [nm])) := Lib.hid (ownS_push hown5)
          have B5 : Hid (Below w1.heap.size w1 w5) := Lib.hid ((hBl.out.alloc hBl.out.size _).grown hg5.gb (by simp; omega) (fun q hq => (World.ownsRow.lt hO.out q hq).1))
          clear hown5 hg5
          go_wp2_with fail
          go_roundw
          case rel => exact ⟨k + 1, by omega, by go_num, by rw [HT2.out]; exact O5, B5⟩
          case measure => simp [intOf]; omega
        · have HT2 : Hid (pickN g (fun i => f i && !f2 i) (k + 1) = d) := Lib.hid (by rw [HTk.out]; simp)
          clear HTk
          go_wp2_with fail
          go_roundw
          case rel => exact ⟨k + 1, by omega, by go_num, by rw [HT2.out]; exact hO, hBl⟩
          case measure => simp [intOf]; omega
    · have hkk : k = g.length := by omega
      have HK := Lib.hid hkk
      clear hkk
      go_wp2_with fail
      go_ret
      refine ⟨_, rfl, own_lower ?_ hs1, B1.out.trans (hBl.out.mono hs1)⟩
      rw [HE.out, ← HK.out]; exact hO.out
end Go.Proofs.Ytfphkbbgbfnhaaa
