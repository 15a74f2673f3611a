/- The walk of object's readNames. The walks of bytes.Compare and of object's rise. -/
import Derived.Test.YtdolonkeanlaoaaDoorObEG
import Derived.Test.YtdolonkeanlaoaaDoorIds
import Derived.Lib.BytesEntry
import Derived.Lib.Bytealg
import Derived.Deep.QuietTactic
import Derived.BigQuiet
import Derived.IntWalk
namespace Go.Proofs.YtdolonkeanlaoaaDoor
open Go.RowKit
attribute [local simp high] id_size id_zero

def IdsV (w w' : World) (v : Value) (I : List (List UInt8)) : Prop := w'.ownsRow w.heap.size 33 32 v I.length (idsV I) ∧ ∀ y ∈ I, y.length = 32
set_option maxRecDepth 100000 in
set_option maxHeartbeats 4000000 in
theorem rnames_any (S : Nat → Prop) (n most : Nat) (v : Value) (x : Val) (w : World) (hS : ∀ k, S k → k < w.heap.size) (hx : ReadsS S w (n + 2) v x) :
    Calls Tryd.prog 58 #[v, .int .i64 most] w (GivesR (IdsV w) w (namesR most x)) := by
  have hst := run_storeF
  obtain ⟨a1, c1, a2, c2, rfl, h2, h3, h4, h5, h6, h7⟩ := hx.parts
  have HBX := Lib.hid ((Below.refl w.heap.size w).alloc (Nat.le_refl _) (.cells #[.int .i64 x.kind, .int .u64 x.num, .slice a1 x.bytes.length c1, .float .f64 x.real, .slice a2 x.list.length c2] 53))
  have hS1 : ∀ k, S k → k < (w.alloc (.cells #[.int .i64 x.kind, .int .u64 x.num, .slice a1 x.bytes.length c1, .float .f64 x.real, .slice a2 x.list.length c2] 53)).heap.size := fun k hk => by have := hS k hk; simp; omega
  have HL := Lib.hid (rlist_any S (n + 1) most (.agg #[.int .i64 x.kind, .int .u64 x.num, .slice a1 x.bytes.length c1, .float .f64 x.real, .slice a2 x.list.length c2]) x (w.alloc (.cells #[.int .i64 x.kind, .int .u64 x.num, .slice a1 x.bytes.length c1, .float .f64 x.real, .slice a2 x.list.length c2] 53)) hS1
    (ReadsS.kept (fun k hk => ⟨hk, Below.heap_alloc _ _ _ (hS k hk)⟩) (n + 2) _ _ hx))
  have HS := Lib.hid hS
  clear h6 h7 hx hS1 hS
  unfold namesR
  cases hl : listR most x with
  | error c =>
    rw [hl] at HL
    rw [andR_bad rfl]
    clear hl
    go_enter Tryd.func58, Tryd.ntmps58
    go_wp2_with fail
    refine HL.out.mono ?_
    rintro e w1 ⟨rfl, hb1⟩
    have HB := Lib.hid hb1
    clear hb1
    go_wp2
    exact ⟨rfl, rfl, HBX.out.trans (HB.out.mono (by simp))⟩
  | ok L =>
    rw [hl] at HL
    rw [andR_of rfl]
    obtain ⟨hkk, hll, hlm⟩ := listR_ok hl
    have HLL : Hid (L.length ≤ 1048576) := Lib.hid (by rw [← hll]; exact h5)
    obtain ⟨R, hR⟩ : ∃ R, eachR nameR L = R := ⟨_, rfl⟩
    rw [hR]
    have HR := Lib.hid hR
    clear hl hll hlm hR hkk
    go_enter Tryd.func58, Tryd.ntmps58
    go_wp2_with fail
    refine HL.out.mono ?_
    rintro e w1 ⟨vl, rfl, hL1, hb1⟩
    obtain ⟨la, lc, rfl⟩ := hL1.shape
    have HL1 := Lib.hid hL1
    have HB1 := Lib.hid (HBX.out.trans (hb1.mono (by simp)))
    have HZ1 : Hid (w.heap.size + 1 ≤ w1.heap.size) := Lib.hid (by have := hb1.size; simpa using this)
    clear hL1 hb1 HBX HL
    obtain ⟨m, hm⟩ : ∃ m, L.length = m := ⟨_, rfl⟩
    have HM := Lib.hid hm
    rw [hm] at HL1 ⊢
    have hm20 : m ≤ 1048576 := by rw [← hm]; exact HLL.out
    clear hm
    go_wp2_with fail
    go_loopw [5, 12] (fun v i wr => ∃ (k : Nat) (I : List (List UInt8)), k ≤ m ∧ i = .int .i64 (k : Int) ∧ Hid (eachR nameR (L.take k) = .ok I) ∧ Hid (wr.ownsRow w1.heap.size 33 32 v I.length (idsV I)) ∧ Hid (∀ y ∈ I, y.length = 32) ∧ Hid (Below w1.heap.size w1 wr) ∧ Hid (Below w.heap.size w wr))
      (fun _ i _ => m - (intOf i).toNat)
    case atStart => exact ⟨0, [], Nat.zero_le _, rfl, Lib.hid rfl, Lib.hid (World.ownsRow_nil _ _ _ _), Lib.hid (fun y hy => by simp at hy), Lib.hid (Below.refl _ _), HB1⟩
    case round =>
      obtain ⟨k, I, hk, rfl, hE, hO, hI, hB, hB0⟩ := hrel
      by_cases hlt : k < m
      · obtain ⟨y, hy⟩ : ∃ y, L[k]? = some y := ⟨_, List.getElem?_eq_getElem (by rw [HM.out]; exact hlt)⟩
        have hLw := HL1.out
        rw [← HM.out] at hLw
        have hLk := hLw.kept HLL.out (S' := S) (w' := wr) (fun q hq => ⟨hq, hB.out.block q (by have := HS.out q hq; have := HZ1.out; omega)⟩)
        obtain ⟨g, o, b1, d1, b2, d2, rfl, hg, hlc, hcm, ⟨e0, e1, e2, e3, e4⟩, hRy⟩ := hLk.el hy
        have hsz := hB0.out.size
        have hgw := HS.out g hg
        obtain ⟨n1, n2⟩ := eachR_next hE.out hy
        have HN1 := Lib.hid n1
        have HN2 := Lib.hid n2
        have HC := Lib.hid (rname_id_any S n (.agg #[.int .i64 y.kind, .int .u64 y.num, .slice b1 y.bytes.length d1, .float .f64 y.real, .slice b2 y.list.length d2]) y (wr.alloc (.cells #[.int .i64 y.kind, .int .u64 y.num, .slice b1 y.bytes.length d1, .float .f64 y.real, .slice b2 y.list.length d2] 53))
          (fun q hq => by have := HS.out q hq; simp; omega) (ReadsS.kept (fun q hq => ⟨hq, Below.heap_alloc _ _ _ (by have := HS.out q hq; omega)⟩) (n + 1) _ _ hRy))
        have HBW : Hid (Below wr.heap.size wr (wr.alloc (.cells #[.int .i64 y.kind, .int .u64 y.num, .slice b1 y.bytes.length d1, .float .f64 y.real, .slice b2 y.list.length d2] 53))) := Lib.hid ((Below.refl _ wr).alloc (Nat.le_refl _) _)
        have HZ : Hid ((wr.alloc (.cells #[.int .i64 y.kind, .int .u64 y.num, .slice b1 y.bytes.length d1, .float .f64 y.real, .slice b2 y.list.length d2] 53)).heap.size = wr.heap.size + 1) := Lib.hid (by simp)
        have hlen := Lib.hid hO.out.1
        clear hLw hLk hRy hy n1 n2 hcm hlc
        have f1 := five_new wr (.int .i64 y.kind) (.int .u64 y.num) (.slice b1 y.bytes.length d1) (.float .f64 y.real) (.slice b2 y.list.length d2) 53
        clear f1
        obtain ⟨N, hN⟩ : ∃ N, nameR y = N := ⟨_, rfl⟩
        rw [hN] at HC HN1 HN2
        clear hN
        cases N with
        | error c =>
          have hR : Hid (R = .error c) := Lib.hid (by rw [← HR.out]; exact HN2.out c rfl)
          go_wp2_with fail
          refine HC.out.mono ?_
          rintro e w2 ⟨rfl, hb2⟩
          have HB2 := Lib.hid (hB0.out.trans ((HBW.out.trans (hb2.mono (by rw [HZ.out]; omega))).mono hsz))
          clear hb2
          go_wp2_with fail
          refine ⟨rfl, ?_⟩
          rw [hR.out]
          exact ⟨rfl, HB2.out⟩
        | ok X =>
          have HE1 : Hid (eachR nameR (L.take (k + 1)) = .ok (I ++ [X])) := Lib.hid (HN1.out X rfl)
          go_wp2_with fail
          refine HC.out.mono ?_
          rintro e w2 ⟨vX, rfl, ⟨rfl, hX⟩, hb2⟩
          have HBB : Hid (Below wr.heap.size wr w2) := Lib.hid (HBW.out.trans (hb2.mono (by rw [HZ.out]; omega)))
          have zx : (bv X).length = n32 := by rw [bv_len, hX]; rfl
          have hbi := fun g => build_ids (F := bv X) zx g
          have hnl : (16777216 < n32) = False := by unfold n32; simp
          have HX := Lib.hid hX
          obtain ⟨i0, hi, hz0, hz1, hz2q⟩ := info_parts id_info
          have HI5 : Hid (∀ z ∈ I ++ [X], z.length = 32) := Lib.hid (fun z hz => by
            rcases List.mem_append.1 hz with hz | hz
            · exact hI.out z hz
            · rw [List.mem_singleton] at hz; rw [hz]; exact hX)
          have HO2 := Lib.hid (row_kept (w' := w2) hO.out (fun q hq => HBB.out.block q (World.ownsRow.lt hO.out q hq).2))
          have hil : I.length ≤ 1048576 := by have := eachR_len hE.out; rw [List.length_take, HM.out] at this; omega
          have HIL := Lib.hid hil
          have hz2 := HBB.out.size
          clear hb2 hX hil
          go_wp2_with (at_builtin; refine wpList_own_src _ rfl _ _ 29 29 rfl w1.heap.size 33 i0 (.agg (bv zeros).toArray) 32 32 Tryd.underlying29 hi hz0 hz1 hz2q rfl (by decide) _ _ _ rfl (World.ownsRow.alloc HO2.out _) _ 1 (bv X) rfl (srcI_one _ X HX.out) ?c3 ?c4 ?c5 ?_)
          case c3 => have := HIL.out; unfold maxLen; omega
          case c4 => have := HIL.out; omega
          case c5 => have := hB.out.size; simp; omega
          intro v3 w3 hown3 hg3
          have hB3 : Hid (Below w1.heap.size w1 w3) := Lib.hid (((hB.out.trans (HBB.out.mono hB.out.size)).alloc (by have := hB.out.size; omega) (.cells (bv X).toArray 33)).grown hg3.gb (by have := hB.out.size; simp; omega) (fun q hq => (World.ownsRow.lt (World.ownsRow.alloc HO2.out (.cells (bv X).toArray 33)) q hq).1))
          have hB4 : Hid (Below w.heap.size w w3) := Lib.hid (HB1.out.trans (hB3.out.mono (by have := HZ1.out; omega)))
          have hO3 : Hid (w3.ownsRow w1.heap.size 33 32 v3 (I ++ [X]).length (idsV (I ++ [X]))) := Lib.hid (by rw [idsV_snoc, List.length_append]; exact hown3)
          clear hown3 hg3
          go_wp2
          go_roundw
          case rel => exact ⟨k + 1, I ++ [X], by omega, by go_num, HE1, hO3, HI5, hB3, hB4⟩
          case measure => simp [intOf]; omega
      · have hR : Hid (R = .ok I) := Lib.hid (by
          have := hE.out
          rw [List.take_of_length_le (by rw [HM.out]; omega)] at this
          rw [← HR.out]; exact this)
        go_wp2_with fail
        go_ret
        rw [hR.out]
        exact ⟨_, rfl, ⟨own_base hO.out (by have := HZ1.out; omega), hI.out⟩, hB0.out⟩
end Go.Proofs.YtdolonkeanlaoaaDoor
namespace Go.Proofs.YtdolonkeanlaoaaDoor
open Go.RowKit
attribute [local simp high] id_size id_zero

theorem less_cmp : ∀ a b : List UInt8, ltB a b = decide (Lib.compareBytes a b < 0)
  | [], [] => rfl
  | [], _ :: _ => rfl
  | _ :: _, [] => rfl
  | x :: a, y :: b => by
    have ih := less_cmp a b
    unfold ltB at ih ⊢
    unfold Lib.compareBytes Op.bytesLess
    by_cases h1 : x < y
    · simp [h1]
    · by_cases h2 : y < x
      · have : ¬ x = y := by rintro rfl; exact h1 h2
        simp [h1, h2, this]
      · have : x = y := UInt8.le_antisymm (UInt8.not_lt.1 h2) (UInt8.not_lt.1 h1)
        subst this
        simpa [h1] using ih
theorem bytes_nums (l : List UInt8) : Lib.bytesOf (l.map fun c => (c.toNat : Int)) = l := by
  unfold Lib.bytesOf
  rw [List.map_map]
  refine (List.map_congr_left fun c _ => ?_).trans (List.map_id l)
  simp
theorem bytes_of {S : Nat → Prop} {w : World} {v : Value} {l : List UInt8} (h : BytesC S w v l) : (Extern.Bytes.bytesOf v).run Tryd.prog w = .ok ⟨l.toArray⟩ w := by
  rcases h with ⟨rfl, rfl⟩ | ⟨a, cap, rfl, _, _, _, hc⟩
  · rfl
  · have := Lib.run_loadBytesX (P := Tryd.prog) (w := w) (l.map fun c => (c.toNat : Int)) a .empty (fun j x hj => by
      rw [List.getElem?_map] at hj
      refine hc j _ ?_
      unfold bv
      rw [List.getElem?_map]
      cases hl : l[j]? with
      | none => rw [hl] at hj; cases hj
      | some c => rw [hl] at hj; injection hj with hj; subst hj; rfl)
    rw [List.length_map] at this
    rw [bytes_nums] at this
    simpa [Extern.Bytes.bytesOf] using this
theorem run_cmp {S : Nat → Prop} {w : World} {u v : Value} {a b : List UInt8} (hu : BytesC S w u a) (hv : BytesC S w v b) : (callFunc 73 #[u, v]).run Tryd.prog w = .ok (.value (.int .i64 (Lib.compareBytes a b))) w := by
  rw [run_callFunc_extern (e := Extern.BytealgCompare.compare) Tryd.func73 (by kernel_rfl) (by kernel_rfl) (by kernel_rfl) (by kernel_rfl)]
  have e : (Extern.BytealgCompare.compare #[u, v]).run Tryd.prog w = .ok (.int .i64 (Extern.BytealgCompare.cmp ⟨a.toArray⟩ ⟨b.toArray⟩)) w := by
    change Sem.run Tryd.prog (do pure (goInt (Extern.BytealgCompare.cmp (← Extern.Bytes.bytesOf u) (← Extern.Bytes.bytesOf v)))) w = _
    simp only [Sem.run_bind, Sem.run_pure, bytes_of hu, bytes_of hv, Result.andThen]
    rfl
  rw [e]
  rw [Lib.cmp_eq]
  rfl
set_option maxHeartbeats 400000 in
theorem bcmp_any {S : Nat → Prop} {w : World} {u v : Value} {a b : List UInt8} (hu : BytesC S w u a) (hv : BytesC S w v b) : Calls Tryd.prog 55 #[u, v] w fun e w' => e = .returned (.int .i64 (Lib.compareBytes a b)) ∧ w = w' := by
  have hr := run_cmp hu hv
  clear hu hv
  generalize Lib.compareBytes a b = c at *
  go_enter Tryd.func55, Tryd.ntmps55
  go_wp2
  go_ret
  exact ⟨rfl, rfl⟩
theorem IDsC.at {S : Nat → Prop} {w : World} {a : Option Addr} {c : Nat} {ts : List (List UInt8)} (h : IDsC S w (.slice a ts.length c) ts) (hl : 0 < ts.length) : ∃ b, a = some b ∧ S b.block ∧ ts.length ≤ c ∧ ∀ j, j < ts.length → BytesC S w (.slice (some (b.add (j * n32))) 32 32) (ts.getD j []) := by
  rcases h with ⟨h0, _⟩ | ⟨b, c', h1, h2, h3, h4⟩
  · rw [h0] at hl; simp at hl
  · injection h1 with h1 _ h1c
    subst h1 h1c
    refine ⟨b, rfl, h2, h3, fun j hj => ?_⟩
    have ej : ts.getD j [] = ts[j] := by simp [List.getD, List.getElem?_eq_getElem hj]
    rw [ej]
    refine Or.inr ⟨b.add (j * n32), 32, by rw [(h4 j hj).1], by rw [(h4 j hj).1]; exact Nat.le_refl _, by unfold maxLen; omega, Or.inr (by rw [add_block]; exact h2), fun i u hi => ?_⟩
    have hi2 : i < ts[j].length := by
      have := (List.getElem?_eq_some_iff.1 hi).1
      rwa [bv_len] at this
    rw [(h4 j hj).2 i hi2, ← hi]
    have := bv_at hi2
    rw [← this]
    simp
theorem riseFrom_next {l : List (List UInt8)} {n i : Nat} (h : ltB (l.getD (i - 1) []) (l.getD i []) = true) : riseFrom l (n + 1) i = riseFrom l n (i + 1) := by rw [riseFrom, h]; rfl
theorem riseFrom_stop {l : List (List UInt8)} {n i : Nat} (h : ltB (l.getD (i - 1) []) (l.getD i []) = false) : riseFrom l (n + 1) i = false := by rw [riseFrom, h]; rfl
set_option maxRecDepth 100000 in
set_option maxHeartbeats 4000000 in
theorem rise_any (S : Nat → Prop) (v : Value) (I : List (List UInt8)) (w : World) (hv : IDsC S w v I) (hl : I.length ≤ 1048576) :
    Calls Tryd.prog 30 #[v] w fun e w' => e = .returned (.bool (riseB I)) ∧ ∃ n, w' = w.drewN n := by
  obtain ⟨a, c, rfl⟩ := hv.shape
  have HV := Lib.hid hv
  obtain ⟨R, hR⟩ : ∃ R, riseB I = R := ⟨_, rfl⟩
  rw [hR]
  have HR : Hid (riseFrom I (I.length - 1) 1 = R) := Lib.hid hR
  obtain ⟨m, hm⟩ : ∃ m, I.length = m := ⟨_, rfl⟩
  have HM := Lib.hid hm
  rw [hm] at hl HR HV ⊢
  clear hv hR hm
  go_enter Tryd.func30, Tryd.ntmps30
  go_wp2_with fail
  go_loopw [3] (fun i wr => ∃ k : Nat, 1 ≤ k ∧ (k ≤ m ∨ k = 1) ∧ i = .int .i64 (k : Int) ∧ Hid (riseFrom I (m - k) k = R) ∧ Hid (∃ n, wr = w.drewN n)) (fun i _ => m - (intOf i).toNat)
  case atStart => exact ⟨1, Nat.le_refl _, Or.inr rfl, rfl, HR, Lib.hid ⟨0, rfl⟩⟩
  case round =>
    obtain ⟨k, hk1, hk, rfl, hE, hW⟩ := hrel
    by_cases hlt : k < m
    · obtain ⟨b, rfl, hSb, hc, hat⟩ := (show IDsC S w (.slice a I.length c) I by rw [HM.out]; exact HV.out).at (by rw [HM.out]; omega)
      rw [HM.out] at hat hc
      obtain ⟨nw, hnw⟩ := hW.out
      obtain ⟨p, hp⟩ : ∃ p, k = p + 1 := ⟨k - 1, by omega⟩
      have hpi : (k : Int) - 1 = (p : Int) := by omega
      have hpw : IntKind.i64.wrap ((k : Int) - 1) = (p : Int) := by rw [hpi]; exact IntWalk.i64_in _ (by omega)
      have hp0 : (0 : Int) ≤ (p : Int) := by omega
      have hpn : ((p : Nat) : Int).toNat = p := by omega
      have hpm : (p : Int) < (m : Int) := by omega
      have HP := Lib.hid hp
      have h1 := hat p (by omega)
      have h2 := hat k hlt
      clear hat hp
      have HC : Hid (∀ n : Nat, Calls Tryd.prog 55 #[.slice (some (b.add (p * n32))) 32 32, .slice (some (b.add (k * n32))) 32 32] (wr.drewN n) fun e w' => e = .returned (.int .i64 (Lib.compareBytes (I.getD p []) (I.getD k []))) ∧ wr.drewN n = w') := Lib.hid (fun n => by
        rw [hnw]
        exact bcmp_any (h1.kept (fun q hq => ⟨hq, rfl⟩)) (h2.kept (fun q hq => ⟨hq, rfl⟩)))
      clear h1 h2 hnw
      have HLC := Lib.hid (less_cmp (I.getD p []) (I.getD k []))
      have HQ : Hid (∀ n : Nat, Calls Tryd.prog 55 #[.slice (some (b.add (p * n32))) 32 32, .slice (some (b.add (k * n32))) 32 32] (wr.drewN n) fun e w'' => e = .returned (.int .i64 (Lib.compareBytes (I.getD p []) (I.getD k []))) ∧ ∃ m, w'' = wr.drewN m) := Lib.hid (fun n => quiet_l (HC.out n))
      clear HC
      generalize Lib.compareBytes (I.getD p []) (I.getD k []) = cv at *
      go_upto_region 4 with fail
      by_cases hcv : 0 ≤ cv
      · have hR : Hid (R = false) := Lib.hid (by
          rw [← hE.out, show m - k = (m - k - 1) + 1 by omega]
          refine riseFrom_stop ?_
          rw [show k - 1 = p by have := HP.out; omega, HLC.out]
          exact decide_eq_false (by omega))
        go_quiet ((go_at_call 55; exact HQ.out _))
        go_wp2_with fail
        go_ret
        exact ⟨by rw [hR.out]; rfl, by obtain ⟨nw, hnw⟩ := hW.out; rw [hnw]; exact ⟨_, World.drewN_drewN _ _ _⟩⟩
      · have hE1 : Hid (riseFrom I (m - (k + 1)) (k + 1) = R) := Lib.hid (by
          rw [← hE.out, show m - k = (m - (k + 1)) + 1 by omega]
          refine (riseFrom_next ?_).symm
          rw [show k - 1 = p by have := HP.out; omega, HLC.out]
          exact decide_eq_true (by omega))
        go_quiet ((go_at_call 55; exact HQ.out _))
        go_wp2_with fail
        go_roundw
        case rel => exact ⟨k + 1, by omega, Or.inl (by omega), by go_num, hE1, Lib.hid (by obtain ⟨nw, hnw⟩ := hW.out; rw [hnw]; exact ⟨_, World.drewN_drewN _ _ _⟩)⟩
        case measure => simp [intOf]; omega
    · have hR : Hid (R = true) := Lib.hid (by rw [← hE.out, show m - k = 0 by omega]; rfl)
      go_wp2_with fail
      go_ret
      exact ⟨by rw [hR.out]; rfl, hW.out⟩
end Go.Proofs.YtdolonkeanlaoaaDoor
