/- The laws' awake holds. -/
import Derived.Test.YtjlpdoppnhcjoaaDoorJnT
namespace Go.Proofs.YtjlpdoppnhcjoaaDoor
open Go.RowKit Go.Lib
/-- An outcome's cells that are looked at. -/
theorem OutsC.look {S : Nat → Prop} {w : World} {g o c : Nat} {l : List OutM} (h : OutsC S w (.slice (some ⟨g, o, none⟩) l.length c) l) {i : Nat} (hi : i < l.length) :
    w.cell? ⟨g, o + i * n135, none⟩ = some (.string ⟨(l.getD i noneM).1.path.toArray⟩) ∧ w.cell? ⟨g, o + i * n135 + 1, none⟩ = some (.int .i64 (l.getD i noneM).1.kind) ∧ w.cell? ⟨g, o + i * n135 + 34, none⟩ = some (.float .f64 (l.getD i noneM).1.stamp) ∧ w.cell? ⟨g, o + i * n135 + 35, none⟩ = some (l.getD i noneM).1.tv ∧ BytesC S w (l.getD i noneM).1.tv (l.getD i noneM).2 := by
  obtain ⟨g2, o2, e, _, _, _, hat⟩ := OutsC.at h (by omega)
  injection e with e; injection e with e1 e2 _
  subst e1 e2
  obtain ⟨hb, hc⟩ := hat i hi
  exact ⟨hc 0 (by omega), hc 1 (by omega), hc 34 (by omega), hc 35 (by omega), hb⟩
set_option maxRecDepth 100000 in
set_option maxHeartbeats 8000000 in
theorem awakeJ_any (w : World) (hE : PEnv w) : Calls Tryd.prog 8 #[] w fun e w' => e = .returned (.bool true) ∧ Below w.heap.size w w' := by
  have H1 := Lib.hid (aw_merge1 w hE)
  have HW4 := Lib.hid (W4_facts w)
  have HE := Lib.hid hE
  clear hE
  go_enter Tryd.func8, Tryd.ntmps8
  go_wp2_with fail
  change Calls _ _ _ (W4 w) _
  refine H1.out.mono ?_
  rintro e w1 ⟨hb1, v1, c1, rfl, hc1, _, hm1⟩
  have hone := aw_one
  obtain rfl : c1 = 0 := by rw [hc1]; exact congrArg Prod.fst hone
  obtain ⟨ms, hms, ho1⟩ := hm1 rfl
  have hseen : ms.map seenO = [(2, 4611686018427387904, [120, 10, 98, 10, 121, 10])] := by rw [seen_bare hms]; exact congrArg Prod.snd hone
  have HB1 := Lib.hid (HW4.out.2.2.2.2.1.trans (hb1.mono HW4.out.2.2.2.2.1.size))
  have HG1 : Hid (w1.heap[w.heap.size]? = some (.cells lit0 67 (0, 0)) ∧ w.heap.size < w1.heap.size) := Lib.hid ⟨(hb1.block _ (by rw [HW4.out.2.2.2.2.2]; omega)).trans HW4.out.1, by have := hb1.size; rw [HW4.out.2.2.2.2.2] at this; omega⟩
  have HO1 := Lib.hid ho1
  have HSE := Lib.hid hseen
  obtain ⟨a1, k1, rfl⟩ := ho1.shape
  have H2 := Lib.hid (aw_merge2 w1 w.heap.size (HE.out.on HB1.out) HG1.out.2 HG1.out.1)
  clear hms ho1 hone hseen hb1 hc1 hm1 H1
  generalize W4 w = wa at *
  go_wp2_with fail
  change Calls _ _ _ (W2 w1) _
  refine H2.out.mono ?_
  rintro e w2 ⟨hb2, v2, c2, rfl, hc2, _, hm2⟩
  have htwo := aw_two
  obtain rfl : c2 = 0 := by rw [hc2]; exact congrArg Prod.fst htwo
  obtain ⟨ns, hns, ho2⟩ := hm2 rfl
  have hseen2 : (ns.map seenO).map (fun x => x.1) = [1, 4] := by rw [seen_bare hns]; exact congrArg Prod.snd htwo
  have HWB := Lib.hid ((W2_facts w1).2.2.1)
  have HB12 : Hid (Below w1.heap.size w1 w2) := Lib.hid (HWB.out.trans (hb2.mono HWB.out.size))
  have HO1B : Hid (OutsC (fun k => k < w2.heap.size) w2 (.slice a1 ms.length k1) ms) := Lib.hid (RowsC.kept out_keeps HO1.out (fun q hq => ⟨Nat.lt_of_lt_of_le hq.2 HB12.out.size, HB12.out.block q hq.2⟩))
  have HO2 : Hid (OutsC (fun k => k < w2.heap.size) w2 v2 ns) := Lib.hid (RowsC.kept out_keeps ho2 (fun q hq => ⟨hq.2, rfl⟩))
  have HB2 : Hid (Below w.heap.size w w2) := Lib.hid (HB1.out.trans (HB12.out.mono HB1.out.size))
  obtain ⟨a2, k2, rfl⟩ := ho2.shape
  clear hns ho2 htwo hb2 hc2 hm2 HO1 H2 HG1 HB1 HB12 HWB HW4
  generalize W2 w1 = wb at *
  have hse := HSE.out
  clear HSE
  cases ms with
  | nil => cases hse
  | cons x r =>
    rw [List.map_cons] at hse
    injection hse with hx hr
    have hr0 : r = [] := List.map_eq_nil_iff.1 hr
    subst hr0
    cases ns with
    | nil => cases hseen2
    | cons y r2 =>
      rw [List.map_cons, List.map_cons] at hseen2
      injection hseen2 with hy hr2
      cases r2 with
      | nil => cases hr2
      | cons z r3 =>
        rw [List.map_cons, List.map_cons] at hr2
        injection hr2 with hz hr3
        have hr30 : r3 = [] := by
          cases r3 with
          | nil => rfl
          | cons q r => cases hr3
        subst hr30
        have hk : x.1.kind = 2 := congrArg (fun q : Int × Nat × List UInt8 => q.1) hx
        have hs : x.1.stamp = 4611686018427387904 := congrArg (fun q : Int × Nat × List UInt8 => q.2.1) hx
        have ht : x.2 = [120, 10, 98, 10, 121, 10] := congrArg (fun q : Int × Nat × List UInt8 => q.2.2) hx
        have hy2 : y.1.kind = 1 := hy
        have hz2 : z.1.kind = 4 := hz
        obtain ⟨g1, o1, e1, _⟩ := OutsC.at HO1B.out (by simp)
        subst e1
        obtain ⟨_, x1, x34, x35, xb⟩ := OutsC.look HO1B.out (i := 0) (by simp)
        have hcv := bytes_str xb
        simp only [List.getD_cons_zero, hk, hs, ht, Nat.zero_mul, Nat.add_zero] at x1 x34 x35 hcv
        have HC1 := Lib.hid (clean_any _ _ [x] w2 (fun q hq => hq) HO1B.out (by simp))
        have hcl1 : [x].all clearB = true := by simp [clearB, hk]
        rw [hcl1] at HC1
        have hcl2 : [y, z].all clearB = false := by simp [clearB, hy2, hz2]
        generalize x.1.tv = xv at *
        clear xb
        go_wp2_with fail
        refine HC1.out.mono ?_
        rintro e w3 ⟨rfl, hb3⟩
        have HB3 : Hid (Below w.heap.size w w3) := Lib.hid (HB2.out.trans (hb3.mono HB2.out.size))
        have HO3 : Hid (OutsC (fun k => k < w3.heap.size) w3 (.slice a2 [y, z].length k2) [y, z]) := Lib.hid (RowsC.kept out_keeps HO2.out (fun q hq => ⟨Nat.lt_of_lt_of_le hq hb3.size, hb3.block q hq⟩))
        obtain ⟨g2, o2, e2, _⟩ := OutsC.at HO3.out (by simp)
        subst e2
        obtain ⟨_, z1, _, _, _⟩ := OutsC.look HO3.out (i := 1) (by simp)
        simp only [List.getD_cons_succ, List.getD_cons_zero, hz2, Nat.one_mul, show n135 = 135 from rfl] at z1
        have HC2 := Lib.hid (clean_any _ _ [y, z] w3 (fun q hq => hq) HO3.out (by simp))
        rw [hcl2] at HC2
        clear hb3 HO2 HO1B HC1 x1 x34 x35 hcv
        go_wp2_with fail
        refine HC2.out.mono ?_
        rintro e w4 ⟨rfl, hb4⟩
        have HB4 : Hid (Below w.heap.size w w4) := Lib.hid (HB3.out.trans (hb4.mono HB3.out.size))
        clear hb4 HC2 HO3 z1
        go_wp2_with fail
        go_ret
        exact ⟨rfl, HB4.out⟩
end Go.Proofs.YtjlpdoppnhcjoaaDoor
