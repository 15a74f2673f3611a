/- The walk of object's readTree. -/
import Derived.Test.YtdolonkeanlaoaaDoorObM
namespace Go.Proofs.YtdolonkeanlaoaaDoor
open Go.RowKit
attribute [local simp high] id_size id_zero ent_size ent_zero n32_ne n35_ne

theorem build_rowl (n : Nat) (Z F : Nat → Value) : List.foldl (fun (cs : Array Value) (x : Value × Nat) => cs.setIfInBounds x.2 x.1) (Array.map (fun x => (rowL n Z)[x % (rowL n Z).length]?.getD default) (Array.range n)) (rowL n F).zipIdx = (rowL n F).toArray := by
  have h1 : (Array.map (fun x => (rowL n Z)[x % (rowL n Z).length]?.getD default) (Array.range n)).size = n := by rw [Array.size_map, Array.size_range]
  generalize Array.map (fun x => (rowL n Z)[x % (rowL n Z).length]?.getD default) (Array.range n) = A at *
  have h2 := rowL_len n F
  generalize rowL n F = l at *
  apply Array.ext_getElem?
  intro j
  rw [fold_at, Nat.zero_add, Nat.sub_zero]
  by_cases h : j < n
  · rw [if_pos ⟨Nat.zero_le _, by omega, by omega⟩]; simp
  · rw [if_neg (fun x => h (by omega)), Array.getElem?_eq_none (by omega), Array.getElem?_eq_none (by rw [List.size_toArray]; omega)]
theorem build_rowN (n : Nat) (Z F : Nat → Value) : List.foldl (fun (cs : Array Value) (x : Value × Nat) => cs.setIfInBounds x.2 x.1) (Array.map (fun x => (rowL n Z)[x % n]?.getD default) (Array.range n)) (rowL n F).zipIdx = (rowL n F).toArray := by
  have h := build_rowl n Z F
  rw [rowL_len] at h
  exact h
theorem ent_info : (Tryd.prog.info? 45).map (fun i => (i.zero, i.size, i.bytes)) = some (some (.agg (rowL n35 (entF noEnt)).toArray), 35, 64) := by kernel_rfl
def entsV (l : List EntN) : List Value := (l.map fun e => rowL n35 (entF e)).flatten
theorem entsV_snoc (l : List EntN) (e : EntN) : entsV (l ++ [e]) = entsV l ++ rowL n35 (entF e) := by unfold entsV; simp
theorem entsV_one (l : List EntN) : ∀ u ∈ entsV l, u.oneCell' = true := by
  intro u hu
  unfold entsV at hu
  obtain ⟨x, hx, h2⟩ := List.mem_flatten.1 hu
  obtain ⟨y, _, rfl⟩ := List.mem_map.1 hx
  exact rowL_one (ent_one y n35) u h2
def FineE (l : List EntN) : Prop := ∀ e ∈ l, e.name.length ≤ 64 ∧ e.id.length = 32 ∧ e.stamp < 18446744073709551616
def EntV (w w' : World) (v : Value) (l : List EntN) : Prop := w'.ownsRow w.heap.size 45 35 v l.length (entsV l) ∧ FineE l
theorem own_ents {w : World} {B : Nat} {v : Value} {l : List EntN} (h : w.ownsRow B 45 35 v l.length (entsV l)) : EntsC (fun k => B ≤ k ∧ k < w.heap.size) w v l :=
  ⟨l.map fun e => rowL n35 (entF e), by simp, fun cs hc => by obtain ⟨y, _, rfl⟩ := List.mem_map.1 hc; exact rowL_len _ _, (own_cells h (entsV_one l)).kept (fun _ hk => ⟨hk, rfl⟩), fun j e cs he hc => by
    rw [List.getElem?_map, he] at hc
    injection hc with hc
    exact hc.symm⟩
theorem srcE_one (w : World) (e : EntN) : Src Tryd.prog 35 46 (.slice (some ⟨w.heap.size, 0, none⟩) 1 1) 1 (rowL n35 (entF e)) (w.alloc (.cells (rowL n35 (entF e)).toArray 45)) := by
  refine Src.ofSlice _ Tryd.underlying46 _ _ 1 _ (by rw [rowL_len]; rfl) (fun j u hj => ?_) (fun u hu => rowL_one (ent_one e n35) u hu)
  rw [Addr.add_mid, Nat.zero_add, cell_of_row (w.alloc (.cells (rowL n35 (entF e)).toArray 45)) _ _ _ _ _ (new_five w _ _)]
  simpa using hj
set_option maxRecDepth 100000 in
set_option maxHeartbeats 8000000 in
theorem rtree_any (S : Nat → Prop) (v : Value) (l : List UInt8) (w : World) (hS : ∀ k, S k → k < w.heap.size) (hb : BytesC S w v l) :
    Calls Tryd.prog 51 #[v] w (GivesR (EntV w) w (treeR l)) := by
  have hst := run_storeF
  have HF := Lib.hid (fields_any S v l 3 1 w hS hb (by omega) (by omega))
  unfold treeR
  obtain ⟨sa, sc, rfl⟩ := hb.shape
  clear hb hS
  cases hd : fieldsR l 3 1 with
  | error c =>
    rw [hd] at HF
    rw [andR_bad rfl]
    clear hd
    go_enter Tryd.func51, Tryd.ntmps51
    go_wp2_with fail
    refine HF.out.mono ?_
    rintro e w1 ⟨rfl, hb1⟩
    have HB := Lib.hid hb1
    clear hb1
    go_wp2
    exact ⟨rfl, rfl, HB.out⟩
  | ok vs =>
    rw [hd] at HF
    rw [andR_of rfl]
    obtain ⟨xx, hdx, hfx⟩ := andR_ok hd
    have HLEN := Lib.hid (fieldsV_ok hfx).2.1
    clear hd hdx hfx
    unfold treeL
    go_enter Tryd.func51, Tryd.ntmps51
    go_wp2_with fail
    refine HF.out.mono ?_
    rintro e w1 ⟨vl, rfl, hL, hb1⟩
    obtain ⟨la, lc, rfl⟩ := ListS.shape hL
    rw [HLEN.out] at hL ⊢
    obtain ⟨g, o, a1, c1, a2, c2, rfl, hg, hlc, hcm, ⟨e0, e1, e2, e3, e4⟩, hx⟩ := hL.el HLEN.out (j := 0) (by omega)
    simp only [Nat.zero_mul, Nat.add_zero] at e0 e1 e2 e3 e4
    have HT := Lib.hid (rlist_any (NewS w w1) 14 1024 _ _ w1 (fun k hk => hk.2) hx)
    have HB1 := Lib.hid hb1
    have HP := Lib.hid (fun L (h : listR 1024 (at0 vs 0) = .ok L) => (listR_ok h).2.2)
    clear hL hb1 hx hcm
    obtain ⟨rl, hrl⟩ : ∃ r, listR 1024 (at0 vs 0) = r := ⟨_, rfl⟩
    rw [hrl] at HT HP
    have HRL := Lib.hid hrl
    clear hrl
    go_wp2_with fail
    refine HT.out.mono ?_
    intro e w2 h2
    cases rl with
    | error c =>
      obtain ⟨rfl, hb2⟩ := h2
      have HB2 := Lib.hid (HB1.out.trans (hb2.mono HB1.out.size))
      clear hb2
      go_wp2
      refine ⟨rfl, ?_⟩
      rw [HRL.out]
      exact ⟨rfl, HB2.out⟩
    | ok L =>
      obtain ⟨vL, rfl, hL1, hb2⟩ := h2
      have HB2 := Lib.hid (HB1.out.trans (hb2.mono HB1.out.size))
      have HZ2 := Lib.hid hb2.size
      obtain ⟨ra, rc, rfl⟩ := ListS.shape hL1
      obtain ⟨m, hm⟩ : ∃ m, L.length = m := ⟨_, rfl⟩
      have hm20 : m ≤ 1024 := by rw [← hm]; exact HP.out L rfl
      have HM := Lib.hid hm
      have HLL : Hid (L.length ≤ 1048576) := Lib.hid (by omega)
      have HL1 := Lib.hid hL1
      rw [hm] at HL1 ⊢
      obtain ⟨R, hR⟩ : ∃ R, eachR entryR L = R := ⟨_, rfl⟩
      have HR := Lib.hid hR
      have HPO : Hid ((andR (listR 1024 (at0 vs 0)) fun es => andR (eachR entryR es) fun out => if orderE out ≠ 0 then .error (orderE out) else .ok out) = andR R fun out => if orderE out ≠ 0 then .error (orderE out) else .ok out) := Lib.hid (by rw [HRL.out, ← hR]; rfl)
      clear hb2 hL1 hm hR e0 e1 e2 e3 e4
      go_wp2_with fail
      go_loopw [4, 15] (fun v i wr => ∃ (k : Nat) (I : List EntN), k ≤ m ∧ i = .int .i64 (k : Int) ∧ Hid (eachR entryR (L.take k) = .ok I) ∧ Hid (wr.ownsRow w2.heap.size 45 35 v I.length (entsV I)) ∧ Hid (FineE I) ∧ Hid (Below w2.heap.size w2 wr) ∧ Hid (Below w.heap.size w wr))
        (fun _ i _ => m - (intOf i).toNat)
      case atStart => exact ⟨0, [], Nat.zero_le _, rfl, Lib.hid rfl, Lib.hid (World.ownsRow_nil _ _ _ _), Lib.hid (fun y hy => by simp at hy), Lib.hid (Below.refl _ _), HB2⟩
      case round =>
        obtain ⟨k, I, hk, rfl, hE, hO, hI, hB, hB0⟩ := hrel
        by_cases hlt : k < m
        · obtain ⟨y, hy⟩ : ∃ y, L[k]? = some y := ⟨_, List.getElem?_eq_getElem (by rw [HM.out]; exact hlt)⟩
          have hLw := HL1.out
          rw [← HM.out] at hLw
          have hLk := hLw.kept HLL.out (S' := NewS w w1) (w' := wr) (fun q hq => ⟨hq, hB.out.block q (by have := HZ2.out; have := hq.2; omega)⟩)
          obtain ⟨g', o', b1, d1, b2, d2, rfl, hg', hlc', hcm', ⟨e0, e1, e2, e3, e4⟩, hRy⟩ := hLk.el hy
          have hsz := hB0.out.size
          have hszb := hB.out.size
          have hz2 := HZ2.out
          obtain ⟨n1, n2⟩ := eachR_next hE.out hy
          have HN1 := Lib.hid n1
          have HN2 := Lib.hid n2
          have HEO := Lib.hid (fun e (h : entryR y = .ok e) => (entryR_ok h).2.1)
          have HC := Lib.hid (rentry_any (NewS w w1) 12 (.agg #[.int .i64 y.kind, .int .u64 y.num, .slice b1 y.bytes.length d1, .float .f64 y.real, .slice b2 y.list.length d2]) y (wr.alloc (.cells #[.int .i64 y.kind, .int .u64 y.num, .slice b1 y.bytes.length d1, .float .f64 y.real, .slice b2 y.list.length d2] 53))
            (fun q hq => by have := hq.2; simp; omega) (ReadsS.kept (fun q hq => ⟨hq, Below.heap_alloc _ _ _ (by have := hq.2; omega)⟩) 14 _ _ hRy))
          have HBW : Hid (Below wr.heap.size wr (wr.alloc (.cells #[.int .i64 y.kind, .int .u64 y.num, .slice b1 y.bytes.length d1, .float .f64 y.real, .slice b2 y.list.length d2] 53))) := Lib.hid ((Below.refl _ wr).alloc (Nat.le_refl _) _)
          have HZ : Hid ((wr.alloc (.cells #[.int .i64 y.kind, .int .u64 y.num, .slice b1 y.bytes.length d1, .float .f64 y.real, .slice b2 y.list.length d2] 53)).heap.size = wr.heap.size + 1) := Lib.hid (by simp)
          clear hLw hLk hRy hy n1 n2 hcm' hlc'
          obtain ⟨N, hN⟩ : ∃ N, entryR y = N := ⟨_, rfl⟩
          rw [hN] at HC HN1 HN2 HEO
          clear hN
          cases N with
          | error c =>
            have hR : Hid (R = .error c) := Lib.hid (by rw [← HR.out]; exact HN2.out c rfl)
            go_wp2_with fail
            refine HC.out.mono ?_
            rintro e w3 ⟨rfl, hb3⟩
            have HB3 := Lib.hid (hB0.out.trans ((HBW.out.trans (hb3.mono (by rw [HZ.out]; omega))).mono hsz))
            clear hb3
            go_wp2_with fail
            refine ⟨rfl, ?_⟩
            rw [HPO.out, hR.out]
            exact ⟨rfl, HB3.out⟩
          | ok X =>
            have HE1 : Hid (eachR entryR (L.take (k + 1)) = .ok (I ++ [X])) := Lib.hid (HN1.out X rfl)
            go_wp2_with fail
            refine HC.out.mono ?_
            rintro e w3 ⟨vX, rfl, ⟨rfl, hX, hXs⟩, hb3⟩
            have HBB : Hid (Below wr.heap.size wr w3) := Lib.hid (HBW.out.trans (hb3.mono (by rw [HZ.out]; omega)))
            have hbi := build_rowN n35 (entF noEnt) (entF X)
            have hbl := build_rowl n35 (entF noEnt) (entF X)
            have hol := rowL_len n35 (entF X)
            have holz := rowL_len n35 (entF noEnt)
            have hnl : (16777216 < n35) = False := by unfold n35; simp
            obtain ⟨i0, hi, hz0, hz1, hz2q⟩ := info_parts ent_info
            have HI5 : Hid (FineE (I ++ [X])) := Lib.hid (fun z hz => by
              rcases List.mem_append.1 hz with hz | hz
              · exact hI.out z hz
              · rw [List.mem_singleton] at hz; rw [hz]; exact ⟨HEO.out X rfl, hX, hXs⟩)
            have HO2 := Lib.hid (row_kept (w' := w3) hO.out (fun q hq => HBB.out.block q (World.ownsRow.lt hO.out q hq).2))
            have hil : I.length ≤ 1048576 := by have := eachR_len hE.out; rw [List.length_take, HM.out] at this; omega
            have HIL := Lib.hid hil
            have hz3 := HBB.out.size
            clear hb3 hX hXs hil
            go_wp2_with (at_builtin; refine wpList_own_src _ rfl _ _ 46 46 rfl w2.heap.size 45 i0 (.agg (rowL n35 (entF noEnt)).toArray) 35 64 Tryd.underlying46 hi hz0 hz1 hz2q rfl (by decide) _ _ _ rfl (World.ownsRow.alloc HO2.out _) _ 1 (rowL n35 (entF X)) rfl (srcE_one _ X) ?c3 ?c4 ?c5 ?_)
            case c3 => have := HIL.out; unfold maxLen; omega
            case c4 => have := HIL.out; omega
            case c5 => have := hB.out.size; simp; omega
            intro v4 w4 hown4 hg4
            have hB3 : Hid (Below w2.heap.size w2 w4) := Lib.hid (((hB.out.trans (HBB.out.mono hB.out.size)).alloc (by have := hB.out.size; omega) (.cells (rowL n35 (entF X)).toArray 45)).grown hg4.gb (by have := hB.out.size; simp; omega) (fun q hq => (World.ownsRow.lt (World.ownsRow.alloc HO2.out (.cells (rowL n35 (entF X)).toArray 45)) q hq).1))
            have hB4 : Hid (Below w.heap.size w w4) := Lib.hid (HB2.out.trans (hB3.out.mono HB2.out.size))
            have hO3 : Hid (w4.ownsRow w2.heap.size 45 35 v4 (I ++ [X]).length (entsV (I ++ [X]))) := Lib.hid (by rw [entsV_snoc, List.length_append]; exact hown4)
            clear hown4 hg4 hbi hbl hol holz hnl
            go_wp2
            go_roundw
            case rel => exact ⟨k + 1, I ++ [X], by omega, by go_num, HE1, hO3, HI5, hB3, hB4⟩
            case measure => simp [intOf]; omega
        · have hR : Hid (R = .ok I) := Lib.hid (by
            have := hE.out
            rw [List.take_of_length_le (by rw [HM.out]; omega)] at this
            rw [← HR.out]; exact this)
          have hents := own_ents hO.out
          obtain ⟨ea, ec, hev⟩ := RowsC.shape hents
          rw [hev] at hO hents ⊢
          have HCE := Lib.hid (checkE_any _ _ I wr (fun q hq => hq.2) hents (fun e he => by have := (hI.out e he).1; omega) (by have := eachR_len hE.out; rw [List.length_take, HM.out] at this; omega))
          have HEV := Lib.hid hev
          have HRO : Hid ((andR R fun out => if orderE out ≠ 0 then .error (orderE out) else .ok out) = if orderE I ≠ 0 then .error (orderE I) else .ok I) := Lib.hid (by rw [hR.out]; rfl)
          clear hents hev
          generalize orderE I = oe at *
          go_wp2_with fail
          refine HCE.out.mono ?_
          rintro e w5 ⟨rfl, hb5⟩
          have HB5 := Lib.hid (hB0.out.trans (hb5.mono hB0.out.size))
          have HO5 := Lib.hid (row_kept (w' := w5) hO.out (fun q hq => hb5.block q (World.ownsRow.lt hO.out q hq).2))
          clear hb5
          by_cases hoe : oe = 0
          · subst hoe
            go_wp2_with fail
            go_ret
            rw [HPO.out, HRO.out, if_neg (by simp)]
            exact ⟨_, rfl, ⟨own_base HO5.out HB2.out.size, hI.out⟩, HB5.out⟩
          · have g : (oe == 0) = false := by rw [beq_eq_false_iff_ne]; exact hoe
            have HOE := Lib.hid hoe
            clear hoe
            go_wp2_with fail
            refine ⟨rfl, ?_⟩
            rw [HPO.out, HRO.out, if_pos HOE.out]
            exact ⟨rfl, HB5.out⟩
end Go.Proofs.YtdolonkeanlaoaaDoor
