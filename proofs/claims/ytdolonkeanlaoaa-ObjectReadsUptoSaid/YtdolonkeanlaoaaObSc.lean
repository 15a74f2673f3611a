/- The walk of the reference's entry. -/
import Derived.Test.YtdolonkeanlaoaaObSb
import Derived.Test.YtdolonkeanlaoaaObRe
namespace Go.Proofs.Ytdolonkeanlaoaa
open Go.RowKit
attribute [local simp high] id_size id_zero rent_size rent_zero n32_ne n35_ne

theorem ReadsS.bytes {S : Nat → Prop} {w : World} {n : Nat} {v0 v1 vb v3 v4 : Value} {x : Val} (h : ReadsS S w (n + 1) (.agg #[v0, v1, vb, v3, v4]) x) : BytesC S w vb x.bytes := by
  obtain ⟨a1, c1, a2, c2, e, _, _, _, _, h6, _⟩ := h.parts
  injection e with e
  have e2 : [v0, v1, vb, v3, v4] = [.int .i64 x.kind, .int .u64 x.num, .slice a1 x.bytes.length c1, .float .f64 x.real, .slice a2 x.list.length c2] := by injection e
  injection e2 with _ e2
  injection e2 with _ e2
  injection e2 with e2 _
  rw [e2]; exact h6
theorem results_row {fn : Func} {p u : Tmp} {ty : TypeId} (h : fn.results = #[.cell p ty, .tmp u]) (tmps : Array Value) (w : World) {a : Addr} {v x : Value} (hp : tmps.getD p undef = .pointer (some a)) (hx : tmps.getD u undef = x) (hl : (loadVar ty a).run Try.prog w = .ok v w) :
    (results fn tmps).run Try.prog w = .ok (.tuple #[v, x]) w := by
  rw [results_cell_tmp h, hp, hx]
  simp [asAddr, hl]
theorem zero_row : rowL n32 (fun _ => .int .u8 0) = bv zeros := by kernel_rfl
theorem ent_setid (p Z X : List UInt8) (f : Bool) (s j : Nat) (hj : j < 35) : (if 2 ≤ j ∧ j < 2 + n32 then entF ⟨p, f, X, s⟩ (2 + (j - 2)) else entF ⟨p, f, Z, s⟩ j) = entF ⟨p, f, X, s⟩ j := by
  by_cases h : 2 ≤ j ∧ j < 2 + n32
  · rw [if_pos h, show 2 + (j - 2) = j by omega]
  · rw [if_neg h]
    unfold entF n32 at *
    by_cases h0 : j = 0
    · simp [h0]
    · by_cases h1 : j = 1
      · simp [h1]
      · rw [if_neg h0, if_neg h1, if_neg (by omega), if_neg h0, if_neg h1, if_neg (by omega)]
theorem ent_two (p : List UInt8) (b : Bool) : ((rowL n35 (entF noEnt)).set 0 (.string ⟨p.toArray⟩)).set 1 (.bool b) = rowL n35 (entF ⟨p, b, zeros, 0⟩) := by kernel_rfl
set_option maxRecDepth 100000 in
set_option maxHeartbeats 8000000 in
theorem dentry_any (S : Nat → Prop) (n : Nat) (v : Value) (x : Val) (w : World) (hS : ∀ k, S k → k < w.heap.size) (hx : ReadsS S w (n + 2) v x) :
    Calls Try.prog 60 #[v] w (FaceR (fun _ v e => v = .agg (rowL n35 (entF e)).toArray ∧ e.id.length = 32 ∧ e.stamp < 18446744073709551616 ∧ e.name.length ≤ 64) (.agg (rowL n35 (entF noEnt)).toArray) w (entryR x)) := by
  have hst := run_storeF
  obtain ⟨a1, c1, a2, c2, rfl, h2, h3, h4, h5, h6, h7⟩ := hx.parts
  obtain ⟨m, hm⟩ : ∃ m, x.list.length = m := ⟨_, rfl⟩
  have HM := Lib.hid hm
  rw [hm] at h7 ⊢
  obtain ⟨mb, hmb⟩ : ∃ m, x.bytes.length = m := ⟨_, rfl⟩
  rw [hmb]
  obtain ⟨w1, hw1⟩ : ∃ w1, w1 = (w.alloc (.cells #[.int .i64 x.kind, .int .u64 x.num, .slice a1 mb c1, .float .f64 x.real, .slice a2 m c2] 82)).alloc (.cells (rowL n35 (entF noEnt)).toArray 91) := ⟨_, rfl⟩
  have HB1 : Hid (Below w.heap.size w w1) := Lib.hid (by rw [hw1]; exact ((Below.refl _ w).alloc (Nat.le_refl _) _).alloc (by simp) _)
  have HZ1 : Hid (w1.heap.size = w.heap.size + 2) := Lib.hid (by rw [hw1]; simp)
  have HBK : Hid (w1.heap[w.heap.size]? = some (.cells #[.int .i64 x.kind, .int .u64 x.num, .slice a1 mb c1, .float .f64 x.real, .slice a2 m c2] 82 (0, 0))) := Lib.hid (by rw [hw1]; exact (Below.heap_alloc _ _ _ (by simp)).trans (new_five w _ _))
  have HR0 : Hid (RF w1 (w.heap.size + 1) 91 n35 (entF noEnt)) := Lib.hid (by
    rw [hw1]
    have h := RF.new (w.alloc (.cells #[.int .i64 x.kind, .int .u64 x.num, .slice a1 mb c1, .float .f64 x.real, .slice a2 m c2] 82)) 91 n35 (entF noEnt)
    rw [World.size_alloc] at h
    exact h)
  have HL := Lib.hid h7
  have HLL : Hid (x.list.length ≤ 1048576) := Lib.hid h5
  have HS := Lib.hid hS
  have HW1 := Lib.hid hw1
  have HBR : Hid (Below w1.heap.size w1 w1) := Lib.hid (Below.refl _ _)
  clear h2 h3 h4 h5 h6 h7 hx hm hmb hS hw1
  by_cases hk : x.kind = 3
  · have g3 : (x.kind != 3) = false := by rw [hk]; rfl
    by_cases hm3 : 3 < m
    · have e : entryR x = .error 2 := by unfold entryR listR; rw [HM.out, if_neg (by omega), if_pos hm3]; rfl
      rw [e]
      clear e hk
      go_enter Try.func60, Try.ntmps60
      go_upto_region 1 with fail
      rw [← HW1.out]
      obtain ⟨⟨p0, p1, p2, p3, p4⟩, _⟩ := five_cells HBK.out
      have hr := HR0.out.kept (HBR.out.block (w.heap.size + 1) (by rw [HZ1.out]; omega))
      have stz := hr.write (ent_one noEnt n35)
      rw [setRow_self _ _ _ _ _ hr.blk] at stz
      have HRR := Lib.hid hr
      have HBF : Hid (Below w.heap.size w w1) := Lib.hid (HB1.out.trans (HBR.out.mono HB1.out.size))
      have holz := rowL_len n35 (entF noEnt)
      clear hr
      go_wp2_with fail
      refine bodyPost_ret (results_row Try.results60 _ _ rfl rfl (HRR.out.var (rent_agg _) (rent_size _))) rfl ?_
      exact ⟨rfl, HBF.out⟩
    · by_cases hm2 : m < 2
      · have e : entryR x = .error 91 := by unfold entryR listR; rw [HM.out, if_neg (by omega), if_neg hm3]; simp only [andR]; unfold entryL; rw [HM.out, if_pos hm2]
        rw [e]
        clear e hk hm3
        go_enter Try.func60, Try.ntmps60
        go_upto_region 1 with fail
        rw [← HW1.out]
        obtain ⟨⟨p0, p1, p2, p3, p4⟩, _⟩ := five_cells HBK.out
        have hr := HR0.out.kept (HBR.out.block (w.heap.size + 1) (by rw [HZ1.out]; omega))
        have stz := hr.write (ent_one noEnt n35)
        rw [setRow_self _ _ _ _ _ hr.blk] at stz
        have HRR := Lib.hid hr
        have HBF : Hid (Below w.heap.size w w1) := Lib.hid (HB1.out.trans (HBR.out.mono HB1.out.size))
        have holz := rowL_len n35 (entF noEnt)
        clear hr
        go_wp2_with fail
        refine bodyPost_ret (results_row Try.results60 _ _ rfl rfl (HRR.out.var (rent_agg _) (rent_size _))) rfl ?_
        exact ⟨rfl, HBF.out⟩
      · have HE : Hid (entryR x = andR (textR 64 (at0 x.list 0)) fun n => andR (nameR (at0 x.list 1)) fun i => if m = 2 then .ok ⟨n, true, i, 0⟩ else andR (stampR (at0 x.list 2)) fun s => .ok ⟨n, false, i, s⟩) := Lib.hid (by
          unfold entryR listR
          rw [HM.out, if_neg (by omega), if_neg hm3]
          simp only [andR]
          unfold entryL
          rw [HM.out, if_neg hm2]
          rfl)
        obtain ⟨g, o, t1, tc1, t2, tc2, rfl, hg, hlc, hcm, ⟨e0, e1, e2, e3, e4⟩, hx0⟩ := HL.out.el2 HM.out (j := 0) (by omega)
        obtain ⟨g', o', q1, qc1, q2, qc2, heq, _, _, _, ⟨f0, f1, f2, f3, f4⟩, hx1⟩ := HL.out.el2 HM.out (j := 1) (by omega)
        injection heq with heq
        injection heq with heq1 heq2
        subst heq1 heq2
        simp only [Nat.zero_mul, Nat.add_zero, Nat.one_mul] at e0 e1 e2 e3 e4 f0 f1 f2 f3 f4
        have hgw := HS.out g hg
        have HQ : Hid (∀ W, Below w.heap.size w W → ∀ j, W.cell? ⟨g, j, none⟩ = w.cell? ⟨g, j, none⟩) := Lib.hid (fun W hW j => World.cell?_of_block (w := w) (hW.block g hgw))
        have HEL2 : Hid (m = 3 → ∀ W, Below w.heap.size w W → W.cell? ⟨g, o + 10, none⟩ = some (.int .i64 (at0 x.list 2).kind) ∧ W.cell? ⟨g, o + 10 + 3, none⟩ = some (.float .f64 (at0 x.list 2).real) ∧ (at0 x.list 2).real < 18446744073709551616) := Lib.hid (fun hm W hW => by
          obtain ⟨g3, o3, r1, rc1, r2, rc2, heq3, hSg, _, _, ⟨k0, k1, k2, k3, k4⟩, hx3⟩ := HL.out.el2 HM.out (j := 2) (by omega)
          injection heq3 with heq3
          injection heq3 with heq4 heq5
          subst heq4 heq5
          obtain ⟨_, _, _, _, _, _, hreal, _⟩ := hx3.parts
          exact ⟨(HQ.out W hW _).trans k0, (HQ.out W hW _).trans k3, hreal⟩)
        have HEL1 : Hid (∀ W, Below w.heap.size w W → True ∧ W.cell? ⟨g, o + 5, none⟩ = some (.int .i64 (at0 x.list 1).kind) ∧ W.cell? ⟨g, o + 5 + 1, none⟩ = some (.int .u64 (at0 x.list 1).num) ∧ W.cell? ⟨g, o + 5 + 2, none⟩ = some (.slice q1 (at0 x.list 1).bytes.length qc1) ∧ W.cell? ⟨g, o + 5 + 3, none⟩ = some (.float .f64 (at0 x.list 1).real) ∧ W.cell? ⟨g, o + 5 + 4, none⟩ = some (.slice q2 (at0 x.list 1).list.length qc2)) := Lib.hid (fun W hW => ⟨trivial, (HQ.out W hW _).trans f0, (HQ.out W hW _).trans f1, (HQ.out W hW _).trans f2, (HQ.out W hW _).trans f3, (HQ.out W hW _).trans f4⟩)
        have HID : Hid (∀ W, Below w.heap.size w W → Calls Try.prog 63 #[.agg #[.int .i64 (at0 x.list 1).kind, .int .u64 (at0 x.list 1).num, .slice q1 (at0 x.list 1).bytes.length qc1, .float .f64 (at0 x.list 1).real, .slice q2 (at0 x.list 1).list.length qc2]] W (FaceR (fun _ v X => v = .agg (bv X).toArray ∧ X.length = 32) (.agg (bv zeros).toArray) W (nameR (at0 x.list 1)))) := Lib.hid (fun W hW => did_any S n _ _ W (fun q hq => by have := HS.out q hq; have := hW.size; omega) (ReadsS.kept (fun q hq => ⟨hq, hW.block q (HS.out q hq)⟩) (n + 1) _ _ hx1))
        obtain ⟨y1, hy1⟩ : ∃ y, at0 x.list 1 = y := ⟨_, rfl⟩
        have hbc : BytesC S w (.slice t1 (at0 x.list 0).bytes.length tc1) (at0 x.list 0).bytes := hx0.bytes
        have HT := Lib.hid (dtext_any S n 64 _ _ w1 (ReadsS.kept (fun q hq => ⟨hq, HB1.out.block q (HS.out q hq)⟩) (n + 1) _ _ hx0))
        have HBC := Lib.hid hbc
        have d0 := (HQ.out w1 HB1.out _).trans e0
        have d1 := (HQ.out w1 HB1.out _).trans e1
        have d2 := (HQ.out w1 HB1.out _).trans e2
        have d3 := (HQ.out w1 HB1.out _).trans e3
        have d4 := (HQ.out w1 HB1.out _).trans e4
        have HE2 := Lib.hid e2
        have gmn0 : 0 < m := by omega
        have gmn1 : 1 < m := by omega
        have gm0 : (0 : Int) < (m : Int) := by omega
        have gm1 : (1 : Int) < (m : Int) := by omega
        have HGW := Lib.hid hgw
        clear e0 e1 e2 e3 e4 f0 f1 f2 f3 f4 hx0 hx1 hbc hg hlc hcm hy1 hk
        obtain ⟨TT, hTT⟩ : ∃ T, textR 64 (at0 x.list 0) = T := ⟨_, rfl⟩
        rw [hTT] at HT HE
        have HTT := Lib.hid hTT
        clear hTT
        go_enter Try.func60, Try.ntmps60
        go_upto_region 1 with fail
        rw [← HW1.out]
        obtain ⟨⟨p0, p1, p2, p3, p4⟩, _⟩ := five_cells HBK.out
        go_wp2_with fail
        refine HT.out.mono ?_
        rintro e w2 ⟨rfl, hb2⟩
        have HBX := Lib.hid hb2
        clear hb2 d0 d1 d2 d3 d4 p0 p1 p2 p3 p4
        cases TT with
        | error c =>
          have hc0 : c ≠ 0 := textR_err HTT.out
          have gc1 : (codA (Except.error c : Except Int (List UInt8)) != 0) = true := by rw [bne_iff_ne]; exact hc0
          have HER : Hid (entryR x = .error c) := Lib.hid HE.out
          have HCA : Hid (codA (Except.error c : Except Int (List UInt8)) = c) := Lib.hid rfl
          rw [HCA.out] at gc1 ⊢
          clear hc0
          have hr := HR0.out.kept (HBX.out.block (w.heap.size + 1) (by rw [HZ1.out]; omega))
          have stz := hr.write (ent_one noEnt n35)
          rw [setRow_self _ _ _ _ _ hr.blk] at stz
          have HRR := Lib.hid hr
          have HBF : Hid (Below w.heap.size w w2) := Lib.hid (HB1.out.trans (HBX.out.mono HB1.out.size))
          have holz := rowL_len n35 (entF noEnt)
          clear hr
          go_wp2_with fail
          refine bodyPost_ret (results_row Try.results60 _ _ rfl rfl (HRR.out.var (rent_agg _) (rent_size _))) rfl ?_
          rw [HER.out]
          exact ⟨rfl, HBF.out⟩
        | ok nm =>
          have HCA : Hid (codA (Except.ok nm : Except Int (List UInt8)) = 0) := Lib.hid rfl
          rw [HCA.out]
          have hnm := textR_ok HTT.out
          have HNM : Hid (nm.length ≤ 64) := Lib.hid hnm.2.2
          obtain ⟨fo, hfo⟩ : ∃ fo, fo = decide (m = 2) := ⟨_, rfl⟩
          have HFO := Lib.hid hfo
          have gfo : ((m : Int) == 2) = fo := by rw [hfo, Bool.eq_iff_iff]; simp; omega
          have HBW2 : Hid (Below w.heap.size w w2) := Lib.hid (HB1.out.trans (HBX.out.mono HB1.out.size))
          rw [hnm.2.1] at HBC HE2
          obtain ⟨nb, hnb⟩ : ∃ nb, nm.length = nb := ⟨_, rfl⟩
          rw [hnb] at HBC HE2
          have HS10 : Hid (∀ W : World, (∀ q, q < w2.heap.size → W.heap[q]? = w2.heap[q]?) → W.cell? ⟨w.heap.size, 4, none⟩ = some (.slice (some ⟨g, o, none⟩) m c2) ∧ W.cell? ⟨g, o + 2, none⟩ = some (.slice t1 nb tc1) ∧ BytesC S W (.slice t1 nb tc1) nm) := Lib.hid (fun W hW => by
            have h1 : ∀ q, q < w.heap.size → W.heap[q]? = w.heap[q]? := fun q hq => (hW q (by have := HBW2.out.size; omega)).trans (HBW2.out.block q hq)
            refine ⟨?_, (World.cell?_of_block (w := w) (h1 g HGW.out)).trans HE2.out, HBC.out.kept (fun q hq => ⟨hq, h1 q (HS.out q hq)⟩)⟩
            exact (five_cells ((hW _ (by have := HBX.out.size; rw [HZ1.out] at this; omega)).trans ((HBX.out.block w.heap.size (by rw [HZ1.out]; omega)).trans HBK.out))).1.2.2.2.2)
          have hbs := ent_two nm fo
          have hn2 : (n35 < 2) = False := by simp [n35]
          have hne := ent_ne
          have holz := rowL_len n35 (entF noEnt)
          clear hfo hnm hnb
          go_upto_region 10 with fail
          refine wp_region_D 12 (fun W => W.cell? ⟨w.heap.size, 4, none⟩ = some (.slice (some ⟨g, o, none⟩) m c2) ∧ W.cell? ⟨g, o + 2, none⟩ = some (.slice t1 nb tc1) ∧ BytesC S W (.slice t1 nb tc1) nm) (by kernel_rfl) (by kernel_rfl) (by kernel_rfl) ?_
          have hSd := HS10.out w2.drew (fun q _ => rfl)
          refine wpAnyD_take (i := 0) (oi := ⟨_, _, _, _, _, _⟩) (v := ?_) rfl (by kernel_rfl) (by kernel_rfl) (by kernel_rfl) (by kernel_rfl) (fun _ _ _ h => h) (fun _ _ h => ⟨h.1, h.2.1, h.2.2.kept (fun _ hk => ⟨hk, rfl⟩)⟩) (Or.inl (Or.inl ⟨by rfl, ?_⟩)) hSd ?_
          rotate_left
          · intro W hSw; (try dsimp only at hSw); first | (go_simp; done) | (go_simp; with_reducible rfl)
          try simp only [Act.put, List.setIfInBounds_toArray, List.set_cons_zero, List.set_cons_succ]
          refine wpAnyD_take (i := 1) (oi := ⟨_, _, _, _, _, _⟩) (v := ?_) rfl (by kernel_rfl) (by kernel_rfl) (by kernel_rfl) (by kernel_rfl) (fun _ _ _ h => h) (fun _ _ h => ⟨h.1, h.2.1, h.2.2.kept (fun _ hk => ⟨hk, rfl⟩)⟩) (Or.inl (Or.inl ⟨by rfl, ?_⟩)) hSd ?_
          rotate_left
          · intro W hSw; (try dsimp only at hSw); first | (go_simp; done) | (go_simp; with_reducible rfl)
          try simp only [Act.put, List.setIfInBounds_toArray, List.set_cons_zero, List.set_cons_succ]
          refine wpAnyD_take (i := 2) (oi := ⟨_, _, _, _, _, _⟩) (v := ?_) rfl (by kernel_rfl) (by kernel_rfl) (by kernel_rfl) (by kernel_rfl) (fun _ _ _ h => h) (fun _ _ h => ⟨h.1, h.2.1, h.2.2.kept (fun _ hk => ⟨hk, rfl⟩)⟩) (Or.inl (Or.inl ⟨by rfl, ?_⟩)) hSd ?_
          rotate_left
          · intro W hSw; (try dsimp only at hSw); first | (go_simp; done) | (go_simp; with_reducible rfl)
          try simp only [Act.put, List.setIfInBounds_toArray, List.set_cons_zero, List.set_cons_succ]
          refine wpAnyD_take (i := 3) (oi := ⟨_, _, _, _, _, _⟩) (v := ?_) rfl (by kernel_rfl) (by kernel_rfl) (by kernel_rfl) (by kernel_rfl) (fun _ _ _ h => h) (fun _ _ h => ⟨h.1, h.2.1, h.2.2.kept (fun _ hk => ⟨hk, rfl⟩)⟩) (Or.inl (Or.inl ⟨by rfl, ?_⟩)) hSd ?_
          rotate_left
          · intro W hSw; (try dsimp only at hSw); first | (go_simp; done) | (go_simp; with_reducible rfl)
          try simp only [Act.put, List.setIfInBounds_toArray, List.set_cons_zero, List.set_cons_succ]
          refine wpAnyD_take (i := 4) (oi := ⟨_, _, _, _, _, _⟩) (v := ?_) rfl (by kernel_rfl) (by kernel_rfl) (by kernel_rfl) (by kernel_rfl) (fun _ _ _ h => h) (fun _ _ h => ⟨h.1, h.2.1, h.2.2.kept (fun _ hk => ⟨hk, rfl⟩)⟩) (Or.inl (Or.inl ⟨by rfl, ?_⟩)) hSd ?_
          rotate_left
          · intro W hSw; (try dsimp only at hSw); first | (go_simp; done) | (go_simp; with_reducible rfl)
          try simp only [Act.put, List.setIfInBounds_toArray, List.set_cons_zero, List.set_cons_succ]
          refine wpAnyD_take (i := 5) (oi := ⟨_, _, _, _, _, _⟩) (v := ?_) rfl (by kernel_rfl) (by kernel_rfl) (by kernel_rfl) (by kernel_rfl) (fun _ _ _ h => h) (fun _ _ h => ⟨h.1, h.2.1, h.2.2.kept (fun _ hk => ⟨hk, rfl⟩)⟩) (Or.inl (Or.inl ⟨by rfl, ?_⟩)) hSd ?_
          rotate_left
          · intro W hSw; (try dsimp only at hSw); have hcv := bytes_str hSw.2.2; first | (go_simp; done) | (go_simp; with_reducible rfl)
          try simp only [Act.put, List.setIfInBounds_toArray, List.set_cons_zero, List.set_cons_succ]
          refine wpAnyD_take (i := 6) (oi := ⟨_, _, _, _, _, _⟩) (v := ?_) rfl (by kernel_rfl) (by kernel_rfl) (by kernel_rfl) (by kernel_rfl) (fun _ _ _ h => h) (fun _ _ h => ⟨h.1, h.2.1, h.2.2.kept (fun _ hk => ⟨hk, rfl⟩)⟩) (Or.inl (Or.inl ⟨by rfl, ?_⟩)) hSd ?_
          rotate_left
          · intro W hSw; (try dsimp only at hSw); first | (go_simp; done) | (go_simp; with_reducible rfl)
          try simp only [Act.put, List.setIfInBounds_toArray, List.set_cons_zero, List.set_cons_succ]
          refine wpAnyD_take (i := 7) (oi := ⟨_, _, _, _, _, _⟩) (v := ?_) rfl (by kernel_rfl) (by kernel_rfl) (by kernel_rfl) (by kernel_rfl) (fun _ _ _ h => h) (fun _ _ h => ⟨h.1, h.2.1, h.2.2.kept (fun _ hk => ⟨hk, rfl⟩)⟩) (Or.inl (Or.inl ⟨by rfl, ?_⟩)) hSd ?_
          rotate_left
          · intro W hSw; (try dsimp only at hSw); first | (go_simp; done) | (go_simp; with_reducible rfl)
          try simp only [Act.put, List.setIfInBounds_toArray, List.set_cons_zero, List.set_cons_succ]
          refine wpAnyD_take (i := 8) (oi := ⟨_, _, _, _, _, _⟩) (v := ?_) rfl (by kernel_rfl) (by kernel_rfl) (by kernel_rfl) (by kernel_rfl) (fun _ _ _ h => h) (fun _ _ h => ⟨h.1, h.2.1, h.2.2.kept (fun _ hk => ⟨hk, rfl⟩)⟩) (Or.inl (Or.inl ⟨by rfl, ?_⟩)) hSd ?_
          rotate_left
          · intro W hSw; (try dsimp only at hSw); first | (go_simp; done) | (go_simp; with_reducible rfl)
          try simp only [Act.put, List.setIfInBounds_toArray, List.set_cons_zero, List.set_cons_succ]
          refine wpAnyD_take (i := 9) (oi := ⟨_, _, _, _, _, _⟩) (v := ?_) rfl (by kernel_rfl) (by kernel_rfl) (by kernel_rfl) (by kernel_rfl) (fun _ _ _ h => h) (fun _ _ h => ⟨h.1, h.2.1, h.2.2.kept (fun _ hk => ⟨hk, rfl⟩)⟩) (Or.inl (Or.inl ⟨by rfl, ?_⟩)) hSd ?_
          rotate_left
          · intro W hSw; (try dsimp only at hSw); first | (go_simp; done) | (go_simp; with_reducible rfl)
          try simp only [Act.put, List.setIfInBounds_toArray, List.set_cons_zero, List.set_cons_succ]
          refine wpAnyD_take (i := 10) (oi := ⟨_, _, _, _, _, _⟩) (v := ?_) rfl (by kernel_rfl) (by kernel_rfl) (by kernel_rfl) (by kernel_rfl) (fun _ _ _ h => h) (fun _ _ h => ⟨h.1, h.2.1, h.2.2.kept (fun _ hk => ⟨hk, rfl⟩)⟩) (Or.inl (Or.inl ⟨by rfl, ?_⟩)) hSd ?_
          rotate_left
          · intro W hSw; (try dsimp only at hSw); first | (go_simp; done) | (go_simp; with_reducible rfl)
          try simp only [Act.put, List.setIfInBounds_toArray, List.set_cons_zero, List.set_cons_succ]
          clear hSd
          refine wpAnyD_one (i := 11) (o := ⟨_, _, _, _, _, _⟩) (by kernel_rfl) (by decide) rfl (fun nq K hK0 => ?_)
          have hK := Lib.hid hK0
          clear hK0
          go_simp
          refine any_stepC (fun w7 hN => ?_)
          have HC7 : Hid (w7.heap.size = w2.heap.size + 1 ∧ RF w7 w2.heap.size 91 n35 (entF noEnt) ∧ Below w2.heap.size w2 w7) := Lib.hid (by rw [hN]; exact ⟨by simp, RF.new _ _ _ _, (below_drewN w2.heap.size w2 (1 + nq)).alloc (Nat.le_refl _) _⟩)
          clear hN
          refine hK.out _ _ (HS10.out w7 (fun q hq => HC7.out.2.2.block q hq)) ?_
          clear hK K
          try simp only [Act.put, List.setIfInBounds_toArray, List.set_cons_zero, List.set_cons_succ]
          refine wpAnyD_last (by kernel_rfl) (fun nd => ?_)
          refine wpOp_one rfl (by rfl) ?_
          have HRW : Hid (RF (w7.drewN nd) w2.heap.size 91 n35 (entF noEnt)) := Lib.hid (HC7.out.2.1.kept rfl)
          have st7 := HRW.out.write (ent_one ⟨nm, fo, zeros, 0⟩ n35)
          have HR4 := Lib.hid (HRW.out.put (entF ⟨nm, fo, zeros, 0⟩))
          have HB4 : Hid (Below w2.heap.size w2 ((w7.drewN nd).setRow w2.heap.size (rowL n35 (entF ⟨nm, fo, zeros, 0⟩)).toArray)) := Lib.hid (below_setRow (HC7.out.2.2.trans (below_drewN _ _ _)) (Nat.le_refl _) _)
          have hol7 := rowL_len n35 (entF ⟨nm, fo, zeros, 0⟩)
          go_simp
          clear st7 hol7
          generalize (w7.drewN nd).setRow w2.heap.size (rowL n35 (entF ⟨nm, fo, zeros, 0⟩)).toArray = w4 at *
          obtain ⟨eb, heb⟩ : ∃ eb, w2.heap.size = eb := ⟨_, rfl⟩
          rw [heb] at HR4 ⊢
          have HEB : Hid (w1.heap.size ≤ eb) := Lib.hid (by rw [← heb]; exact HBX.out.size)
          have HBY : Hid (Below w1.heap.size w1 w4) := Lib.hid (HBX.out.trans (HB4.out.mono HBX.out.size))
          clear HC7 HRW heb HB4
          obtain ⟨_, f0, f1, f2, f3, f4⟩ := HEL1.out w4 (HB1.out.trans (HBY.out.mono HB1.out.size))
          obtain ⟨⟨p0, p1, p2, p3, p4⟩, _⟩ := five_cells ((HBY.out.block w.heap.size (by rw [HZ1.out]; omega)).trans HBK.out)
          have HCI := HID.out w4 (HB1.out.trans (HBY.out.mono HB1.out.size))
          have HCI := Lib.hid HCI
          obtain ⟨N, hN⟩ : ∃ N, nameR (at0 x.list 1) = N := ⟨_, rfl⟩
          rw [hN] at HCI
          have HNE := Lib.hid hN
          clear hN
          go_wp2_with fail
          refine HCI.out.mono ?_
          cases N with
          | error c =>
            rintro e w5 ⟨rfl, hb5⟩
            have hc0 : c ≠ 0 := nameR_err HNE.out
            have gc0 : (c == 0) = false := by rw [beq_eq_false_iff_ne]; exact hc0
            have gc1 : (c != 0) = true := by rw [bne_iff_ne]; exact hc0
            have HER : Hid (entryR x = .error c) := Lib.hid (by rw [HE.out, HNE.out]; rfl)
            have hr5 := HR4.out.kept (hb5.block eb HR4.out.lt)
            obtain ⟨w6, st6, _, hbb6, _, _⟩ := hr5.store (o := 2) (m := n32) (G := fun j => .int .u8 0) (by unfold n32 n35; omega) (fun k _ => rfl)
            rw [zero_row] at st6
            have zl := zeros_len
            have HB6 : Hid (Below w1.heap.size w1 w6) := Lib.hid (hbb6 _ _ (HBY.out.trans (hb5.mono HBY.out.size)) HEB.out)
            clear hb5 hbb6 hr5 hc0
            go_upto_region 12 with fail
            clear st6
            have hr := HR0.out.kept (HB6.out.block (w.heap.size + 1) (by rw [HZ1.out]; omega))
            have stz := hr.write (ent_one noEnt n35)
            rw [setRow_self _ _ _ _ _ hr.blk] at stz
            have HRR := Lib.hid hr
            have HBF : Hid (Below w.heap.size w w6) := Lib.hid (HB1.out.trans (HB6.out.mono HB1.out.size))
            have holz := rowL_len n35 (entF noEnt)
            clear hr
            go_wp2_with fail
            refine bodyPost_ret (results_row Try.results60 _ _ rfl rfl (HRR.out.var (rent_agg _) (rent_size _))) rfl ?_
            rw [HER.out]
            exact ⟨rfl, HBF.out⟩
          | ok X =>
            rintro e w5 ⟨vX, rfl, ⟨rfl, hX⟩, hb5⟩
            have hr5 := HR4.out.kept (hb5.block eb HR4.out.lt)
            obtain ⟨w6, st6, hr6, hbb6, _, _⟩ := hr5.store (o := 2) (m := n32) (G := fun j => entF ⟨nm, fo, X, 0⟩ (2 + j)) (by unfold n32 n35; omega) (fun k hk => ent_one ⟨nm, fo, X, 0⟩ 35 (2 + k) (by unfold n32 at hk; omega))
            rw [ent_id (e := ⟨nm, fo, X, 0⟩) hX] at st6
            have zx : (bv X).length = n32 := by rw [bv_len, hX]; rfl
            have HR6 : Hid (RF w6 eb 91 n35 (entF ⟨nm, fo, X, 0⟩)) := Lib.hid (hr6.congr (fun j hj => ent_setid nm zeros X fo 0 j (by unfold n35 at hj; exact hj)))
            have HB6 : Hid (Below w1.heap.size w1 w6) := Lib.hid (hbb6 _ _ (HBY.out.trans (hb5.mono HBY.out.size)) HEB.out)
            have HXL := Lib.hid hX
            clear hb5 hbb6 hr5 hX hr6
            simp only at st6
            go_upto_region 12 with fail
            clear st6 zx
            obtain ⟨⟨p0, p1, p2, p3, p4⟩, _⟩ := five_cells ((HB6.out.block w.heap.size (by rw [HZ1.out]; omega)).trans HBK.out)
            have c1f : w6.cell? ⟨eb, 1, none⟩ = some (.bool fo) := HR6.out.cell (k := 1) (by unfold n35; omega)
            by_cases hm2 : m = 2
            · have hfo : fo = true := by rw [HFO.out]; exact decide_eq_true hm2
              subst hfo
              have HER : Hid (entryR x = .ok ⟨nm, true, X, 0⟩) := Lib.hid (by rw [HE.out, HNE.out]; simp only [andR, hm2, if_true])
              have hr6 := HR6.out
              have lw := hr6.cells
              have hr7 := HR0.out.kept (HB6.out.block (w.heap.size + 1) (by rw [HZ1.out]; omega))
              have stx := hr7.write (ent_one ⟨nm, true, X, 0⟩ n35)
              have HRX := Lib.hid (hr7.put (entF ⟨nm, true, X, 0⟩))
              have hol := rowL_len n35 (entF ⟨nm, true, X, 0⟩)
              have HBF : Hid (Below w.heap.size w (w6.setRow (w.heap.size + 1) (rowL n35 (entF ⟨nm, true, X, 0⟩)).toArray)) := Lib.hid (below_setRow (HB1.out.trans (HB6.out.mono HB1.out.size)) (by omega) _)
              clear hr6 hr7 hm2
              go_wp2_with fail
              refine bodyPost_ret (results_row Try.results60 _ _ rfl rfl (HRX.out.var (rent_agg _) (rent_size _))) rfl ?_
              rw [HER.out]
              exact ⟨_, rfl, ⟨rfl, HXL.out, by simp, HNM.out⟩, HBF.out⟩
            · have hm3 : m = 3 := by omega
              have hfo : fo = false := by rw [HFO.out]; exact decide_eq_false hm2
              subst hfo
              obtain ⟨k0, k3, hreal⟩ := HEL2.out hm3 w6 (HB1.out.trans (HB6.out.mono HB1.out.size))
              have gm3 : (2 : Int) < (m : Int) := by omega
              have gmn3 : 2 < m := by omega
              by_cases hk2 : (at0 x.list 2).kind = 2
              · have gk : ((at0 x.list 2).kind != 2) = false := by rw [hk2]; rfl
                obtain ⟨sr, hsr⟩ : ∃ sr, (at0 x.list 2).real = sr := ⟨_, rfl⟩
                rw [hsr] at k3 hreal
                have HER : Hid (entryR x = .ok ⟨nm, false, X, sr⟩) := Lib.hid (by rw [HE.out, HNE.out]; simp only [andR]; rw [if_neg hm2]; unfold stampR; rw [if_neg (show ¬ ((at0 x.list 2).kind ≠ 2) from fun z => z hk2), hsr])
                have HRL := Lib.hid hreal
                have c34f : ∃ u, w6.cell? ⟨eb, 34, none⟩ = some u := ⟨_, HR6.out.cell (k := 34) (by unfold n35; omega)⟩
                obtain ⟨u34, c34f⟩ := c34f
                have z34 := HR6.out.free 34
                have HR8 : Hid (RF (w6.setCell ⟨eb, 34, none⟩ (.float .f64 sr)) eb 91 n35 (entF ⟨nm, false, X, sr⟩)) := Lib.hid ((HR6.out.set (k := 34) (by unfold n35; omega) (.float .f64 sr)).congr (fun j hj => ent_stamp nm X false 0 sr j (by unfold n35 at hj; exact hj)))
                have HB8 : Hid (Below w1.heap.size w1 (w6.setCell ⟨eb, 34, none⟩ (.float .f64 sr))) := Lib.hid (HB6.out.setCell (p := ⟨eb, 34, none⟩) HEB.out _)
                clear hk2 hsr hreal hm2
                go_upto_region 18 with fail
                clear c34f z34 k0 k3 c1f p0 p1 p2 p3 p4
                generalize w6.setCell ⟨eb, 34, none⟩ (.float .f64 sr) = w8 at *
                have hr6 := HR8.out
                have lw := hr6.cells
                have hr7 := HR0.out.kept (HB8.out.block (w.heap.size + 1) (by rw [HZ1.out]; omega))
                have stx := hr7.write (ent_one ⟨nm, false, X, sr⟩ n35)
                have HRX := Lib.hid (hr7.put (entF ⟨nm, false, X, sr⟩))
                have hol := rowL_len n35 (entF ⟨nm, false, X, sr⟩)
                have HBF : Hid (Below w.heap.size w (w8.setRow (w.heap.size + 1) (rowL n35 (entF ⟨nm, false, X, sr⟩)).toArray)) := Lib.hid (below_setRow (HB1.out.trans (HB8.out.mono HB1.out.size)) (by omega) _)
                clear hr6 hr7
                go_wp2_with fail
                refine bodyPost_ret (results_row Try.results60 _ _ rfl rfl (HRX.out.var (rent_agg _) (rent_size _))) rfl ?_
                rw [HER.out]
                exact ⟨_, rfl, ⟨rfl, HXL.out, HRL.out, HNM.out⟩, HBF.out⟩
              · have gk : ((at0 x.list 2).kind != 2) = true := by rw [bne_iff_ne]; exact hk2
                have HER : Hid (entryR x = .error 91) := Lib.hid (by rw [HE.out, HNE.out]; simp only [andR]; rw [if_neg hm2]; unfold stampR; rw [if_pos hk2])
                clear hk2 hm2
                have hr := HR0.out.kept (HB6.out.block (w.heap.size + 1) (by rw [HZ1.out]; omega))
                have stz := hr.write (ent_one noEnt n35)
                rw [setRow_self _ _ _ _ _ hr.blk] at stz
                have HRR := Lib.hid hr
                have HBF : Hid (Below w.heap.size w w6) := Lib.hid (HB1.out.trans (HB6.out.mono HB1.out.size))
                have holz := rowL_len n35 (entF noEnt)
                clear hr
                go_wp2_with fail
                refine bodyPost_ret (results_row Try.results60 _ _ rfl rfl (HRR.out.var (rent_agg _) (rent_size _))) rfl ?_
                rw [HER.out]
                exact ⟨rfl, HBF.out⟩
  · have e : entryR x = .error 91 := by unfold entryR listR; rw [if_pos hk]; rfl
    rw [e]
    have g3 : (x.kind != 3) = true := by rw [bne_iff_ne]; exact hk
    clear e hk
    go_enter Try.func60, Try.ntmps60
    go_upto_region 1 with fail
    rw [← HW1.out]
    obtain ⟨⟨p0, p1, p2, p3, p4⟩, _⟩ := five_cells HBK.out
    have hr := HR0.out.kept (HBR.out.block (w.heap.size + 1) (by rw [HZ1.out]; omega))
    have stz := hr.write (ent_one noEnt n35)
    rw [setRow_self _ _ _ _ _ hr.blk] at stz
    have HRR := Lib.hid hr
    have HBF : Hid (Below w.heap.size w w1) := Lib.hid (HB1.out.trans (HBR.out.mono HB1.out.size))
    have holz := rowL_len n35 (entF noEnt)
    clear hr
    go_wp2_with fail
    refine bodyPost_ret (results_row Try.results60 _ _ rfl rfl (HRR.out.var (rent_agg _) (rent_size _))) rfl ?_
    exact ⟨rfl, HBF.out⟩
end Go.Proofs.Ytdolonkeanlaoaa
