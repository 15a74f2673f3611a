/- The walk of the laws' built. -/
import Derived.Test.YtfphkbbgbfnhaaaDagT
namespace Go.Proofs.Ytfphkbbgbfnhaaa
open Go.RowKit Go.Shelf Go.Maps Go.Lib Go.Sort

theorem NodesC.nil (S : Nat → Prop) (w : World) : NodesC S w (.slice none 0 0) [] := ⟨[], rfl, (fun cs h => by cases h), CellsC.nil _ _ none 0 2, (fun j e cs he => by simp at he)⟩
theorem BSt.taken {w wr w6 : World} {S : Nat → Prop} {va : Value} {mb : Nat → Nat} {bg bm : Nat} {g : Gr} {x : Txt} {l : List Txt} {R : Nat → Prop} {v' : Value} {S2 : Nat → Prop} {va2 : Value} {D2 : DataW Unit} {mb2 : Nat → Nat} {r : List Nat} (hb : Below w.heap.size w wr) (hd : ∀ k, GrDom S va k → w.heap.size ≤ k) (hg : Good g) (hps : ∀ i, (psOf g i).length ≤ 4194304) (hl : l.length ≤ 4194304)
    (hx : x ∉ names g) (hall : ∀ y ∈ l, y ∈ names g) (hR : ∀ q, R q → w.heap.size ≤ q ∧ q < wr.heap.size ∧ ¬ GrDom S va q) (hn : NodesC R wr v' (refOf g ++ [(x, ascN l)])) (h : Added w.heap.size S wr w6 bg bm va mb g x l S2 va2 D2 mb2 r) : BSt w w6 bg bm (addG g x l) v' := by
  obtain ⟨e1, e2, e3⟩ := parents_eq hg h.asc h.mem (fun y hy => in_names.1 (hall y hy))
  have ea : addG g x l = g ++ [⟨x, r⟩] := by unfold addG; rw [if_neg (by rintro (h2 | h2); exact hx h2; exact h2 hall), ← e2]
  have er : refOf (addG g x l) = refOf g ++ [(x, ascN l)] := by rw [ea, refOf_push hg e3, e1]
  refine ⟨⟨S2, va2, D2, mb2, by rw [ea]; exact h.gr, ?_⟩, ps_len_push hps hl, ?_⟩
  · rw [er]
    refine hn.kept node_keeps (fun q hq => ?_)
    obtain ⟨a, b, c⟩ := hR q hq
    have hs := h.tu.size
    refine ⟨⟨a, by omega, fun h2 => ?_⟩, h.tu.block q b c⟩
    rcases h.low q h2 with h3 | h3
    · exact c h3
    · omega
  · exact ⟨h.tu.os.trans hb.os, h.tu.tape.trans hb.tape, h.tu.output.trans hb.output, Nat.le_trans hb.size h.tu.size, fun k hk => (h.tu.block k (Nat.lt_of_lt_of_le hk hb.size) (fun h2 => by have := hd k h2; omega)).trans (hb.block k hk)⟩
set_option maxRecDepth 100000 in
set_option maxHeartbeats 16000000 in
theorem built_any (S3 : Nat → Prop) (v : Value) (nodes : List (Txt × List Txt)) (w : World) (hS3 : ∀ k, S3 k → k < w.heap.size) (h : NodesC S3 w v nodes) (hl : nodes.length ≤ 60000) (hx : ∀ nd ∈ nodes, nd.1.length ≤ 4194304 ∧ nd.2.length ≤ 4194304 ∧ ∀ y ∈ nd.2, y.length ≤ 4194304) :
    Calls Try.prog 10 #[v] w (BuiltP w nodes) := by
  obtain ⟨na, nc, rfl⟩ := RowsC.shape h
  have H := Lib.hid h
  have HX : Hid (∀ j, j < nodes.length → (nodes.getD j ([], [])).1.length ≤ 4194304 ∧ (nodes.getD j ([], [])).2.length ≤ 4194304 ∧ ∀ y ∈ (nodes.getD j ([], [])).2, y.length ≤ 4194304) := Lib.hid (fun j hj => by rw [getD_at hj]; exact hx _ (List.getElem_mem hj))
  have HNW := Lib.hid (new_any w)
  clear h hx
  go_enter Try.func10, Try.ntmps10
  go_wp2_with fail
  refine HNW.out.mono ?_
  rintro e w1 ⟨bg, bm, S, rfl, g1, b1⟩
  have HB0 : Hid (BSt w w1 bg bm [] (.slice none 0 0)) := Lib.hid ⟨⟨_, _, _, _, g1, NodesC.nil _ _⟩, fun i => by simp [psOf], b1⟩
  clear g1 b1
  go_wp2_with fail
  go_loopw [6, 16] (fun o i wr => ∃ k : Nat, k ≤ nodes.length ∧ i = .int .i64 k ∧ Hid (BSt w wr bg bm (buildN (nodes.take k)) o)) (fun _ i _ => nodes.length - (intOf i).toNat)
  case atStart => exact ⟨0, Nat.zero_le _, rfl, HB0⟩
  case round =>
    obtain ⟨k, hk, rfl, hS⟩ := hrel
    have hbel := Lib.hid hS.out.below
    have hsz := hbel.out.size
    by_cases hlt : k < nodes.length
    · obtain ⟨gg, go, rfl, hgS, _, _, hc⟩ := NodesC.at H.out (by omega)
      obtain ⟨v3, c1, c2, hv3⟩ := hc k hlt
      obtain ⟨hx1, hx2, hx3⟩ := HX.out k hlt
      have d1 := (World.cell?_of_block (w := w) (a := ⟨gg, go + k * 2, none⟩) (hbel.out.block gg (hS3 gg hgS))).trans c1
      have d2 := (World.cell?_of_block (w := w) (a := ⟨gg, go + k * 2 + 1, none⟩) (hbel.out.block gg (hS3 gg hgS))).trans c2
      have HV3 := Lib.hid (hv3.kept (S' := S3) (w' := wr) (fun q hq => ⟨hq, hbel.out.block q (hS3 q hq)⟩))
      have HT : Hid (buildN (nodes.take (k + 1)) = addG (buildN (nodes.take k)) (nodes.getD k ([], [])).1 (nodes.getD k ([], [])).2) := Lib.hid (by
        rw [take_snoc (d := ([], [])) hlt, buildN_snoc])
      have hbl : (buildN (nodes.take k)).length < 65536 := by have := buildN_len (nodes.take k); simp at this; omega
      obtain ⟨la, lc, rfl⟩ := hv3.shape
      have HX3 := Lib.hid hx3
      clear hc c1 c2 hv3 hx3
      generalize buildN (nodes.take k) = g at *
      generalize (nodes.getD k ([], [])).1 = x at *
      generalize (nodes.getD k ([], [])).2 = l at *
      obtain ⟨S4, va, D, mb, hg, hn⟩ := hS.out.ex
      have HPS := Lib.hid hS.out.ps
      have HG := Lib.hid hg
      have HN := Lib.hid hn
      have HRL : (refOf g).length < 65536 := by unfold refOf; simpa using hbl
      have HRA := Lib.hid (fun (W : World) (hb : Below wr.heap.size wr W) => radd_any (fun q => w.heap.size ≤ q ∧ q < wr.heap.size ∧ ¬ GrDom S4 va q) S3 _ _ (refOf g) x l W (fun q hq => Nat.lt_of_lt_of_le hq.2.1 hb.size) (RowsC.kept node_keeps hn (fun q hq => ⟨hq, hb.block q hq.2.1⟩)) HRL (fun q hq => Nat.lt_of_lt_of_le (Nat.lt_of_lt_of_le (hS3 q hq) hsz) hb.size) (HV3.out.kept (fun q hq => ⟨hq, hb.block q (Nat.lt_of_lt_of_le (hS3 q hq) hsz)⟩)) hx2)
      have HAD := Lib.hid (fun (W : World) (hb : Below wr.heap.size wr W) => add_any w.heap.size S4 S3 bg bm va _ D mb g x l W (hg.below hb) (Nat.le_trans hsz hb.size) (fun q hq => Nat.lt_of_lt_of_le (Nat.lt_of_lt_of_le (hS3 q hq) hsz) hb.size) (HV3.out.kept (fun q hq => ⟨hq, hb.block q (Nat.lt_of_lt_of_le (hS3 q hq) hsz)⟩)) hx2 hx1 HX3.out hbl)
      have hdl : Hid (∀ q, GrDom S4 va q → w.heap.size ≤ q ∧ q < wr.heap.size) := Lib.hid hg.domlt
      obtain ⟨oa, oc, rfl⟩ := RowsC.shape hn
      clear hg hn HRL hbl
      go_upto_region 8 with (fail)
      have hBX : Hid (Below wr.heap.size wr (wr.alloc (.cells #[.string ⟨x.toArray⟩, .slice la l.length lc] 56))) := Lib.hid ((Below.refl _ wr).alloc (Nat.le_refl _) _)
      have hbk := new_five wr #[.string ⟨x.toArray⟩, .slice la l.length lc] 56
      have sX : wr.heap.size < (wr.alloc (.cells #[.string ⟨x.toArray⟩, .slice la l.length lc] 56)).heap.size := by simp
      have HBK := Lib.hid hbk
      have q0 : (wr.alloc (.cells #[.string ⟨x.toArray⟩, .slice la l.length lc] 56)).cell? ⟨wr.heap.size, 0, none⟩ = some (.string ⟨x.toArray⟩) := by rw [cell_of_row _ _ _ _ _ _ hbk]; rfl
      have q1 : (wr.alloc (.cells #[.string ⟨x.toArray⟩, .slice la l.length lc] 56)).cell? ⟨wr.heap.size, 1, none⟩ = some (.slice la l.length lc) := by rw [cell_of_row _ _ _ _ _ _ hbk]; rfl
      clear hbk d1 d2
      generalize wr.alloc (.cells #[.string ⟨x.toArray⟩, .slice la l.length lc] 56) = wx at *
      go_wp2_with fail
      refine (HRA.out wx hBX.out).mono ?_
      rintro e w5 ⟨b5, h5⟩
      have B5 : Hid (Below wr.heap.size wr w5) := Lib.hid (hBX.out.trans (b5.mono hBX.out.size))
      have hbx5 : w5.heap[wr.heap.size]? = wx.heap[wr.heap.size]? := b5.block _ sX
      have p0 := (World.cell?_of_block (w := wx) (a := ⟨wr.heap.size, 0, none⟩) hbx5).trans q0
      have p1 := (World.cell?_of_block (w := wx) (a := ⟨wr.heap.size, 1, none⟩) hbx5).trans q1
      have hs5 := b5.size
      rw [refOf_names] at h5
      clear b5 hbx5 q0 q1
      rcases h5 with ⟨hin, rfl⟩ | ⟨hin, hmis, rfl⟩ | ⟨hin, hall, v5, rfl, hn5⟩
      · have HGE : Hid (addG g x l = g) := Lib.hid (by unfold addG; rw [if_pos (Or.inl hin)])
        have HIN := Lib.hid hin
        clear hin
        go_wp2_with fail
        refine (HAD.out w5 B5.out).mono ?_
        rintro e w6 h6
        rcases h6 with ⟨_, rfl, b6⟩ | ⟨h7, _⟩ | ⟨h7, _⟩
        · have B6 : Hid (BSt w w6 bg bm (buildN (nodes.take (k + 1))) (.slice oa (refOf g).length oc)) := Lib.hid (by
            rw [HT.out, HGE.out]; exact hS.out.on (B5.out.trans (b6.mono B5.out.size)))
          clear b6
          go_wp2_with fail
          go_roundw
          case rel => exact ⟨k + 1, by omega, by go_num, B6⟩
          case measure => simp [intOf]; omega
        · exact absurd (in_names.1 HIN.out) h7
        · exact absurd (in_names.1 HIN.out) h7
      · have HGE : Hid (addG g x l = g) := Lib.hid (by
          unfold addG
          rw [if_pos (Or.inr (fun h => by obtain ⟨y, h1, h2⟩ := hmis; exact h2 (h y h1)))])
        have HIN := Lib.hid hin
        have HMI := Lib.hid hmis
        clear hin hmis
        go_wp2_with fail
        refine (HAD.out w5 B5.out).mono ?_
        rintro e w6 h6
        rcases h6 with ⟨h7, _⟩ | ⟨_, _, rfl, b6⟩ | ⟨_, h7, _⟩
        · exact absurd (in_names.2 h7) HIN.out
        · have B6 : Hid (BSt w w6 bg bm (buildN (nodes.take (k + 1))) (.slice oa (refOf g).length oc)) := Lib.hid (by
            rw [HT.out, HGE.out]; exact hS.out.on (B5.out.trans (b6.mono B5.out.size)))
          clear b6
          go_wp2_with fail
          go_roundw
          case rel => exact ⟨k + 1, by omega, by go_num, B6⟩
          case measure => simp [intOf]; omega
        · exact absurd HMI.out (fun ⟨y, h1, h2⟩ => h2 (in_names.2 (h7 y h1)))
      · have HIN := Lib.hid hin
        have HALL := Lib.hid hall
        obtain ⟨rg5, hr5⟩ : ∃ rg5, refOf g ++ [(x, ascN l)] = rg5 := ⟨_, rfl⟩
        rw [hr5] at hn5
        have HR5 := Lib.hid hr5
        clear hr5
        have HN5 := Lib.hid hn5
        obtain ⟨a5, c5, rfl⟩ := RowsC.shape hn5
        clear hin hall hn5
        go_wp2_with fail
        refine (HAD.out w5 B5.out).mono ?_
        rintro e w6 h6
        rcases h6 with ⟨h7, _⟩ | ⟨_, ⟨y, h7, h8⟩, _⟩ | ⟨_, _, rfl, S6, va6, D6, mb6, r6, ha6⟩
        · exact absurd (in_names.2 h7) HIN.out
        · exact absurd (in_names.1 (HALL.out y h7)) h8
        · have B6 : Hid (BSt w w6 bg bm (buildN (nodes.take (k + 1))) (.slice a5 rg5.length c5)) := Lib.hid (by
            rw [HT.out]
            refine BSt.taken (hbel.out.trans (B5.out.mono hsz)) (fun q hq => (hdl.out q hq).1) HG.out.good HPS.out hx2 HIN.out HALL.out (fun q hq => ?_) (by rw [HR5.out]; exact HN5.out) ha6
            rcases hq with ⟨h1, h2, h3⟩ | ⟨h1, h2⟩
            · exact ⟨h1, Nat.lt_of_lt_of_le h2 B5.out.size, h3⟩
            · have := hBX.out.size
              exact ⟨by omega, h2, fun h3 => by have := (hdl.out q h3).2; omega⟩)
          clear ha6
          go_wp2_with fail
          go_roundw
          case rel => exact ⟨k + 1, by omega, by go_num, B6⟩
          case measure => simp [intOf]; omega
    · have HT : Hid (nodes.take k = nodes) := Lib.hid (List.take_of_length_le (by omega))
      obtain ⟨S4, va, D, mb, hg, hn⟩ := hS.out.ex
      have HPS := Lib.hid hS.out.ps
      rw [HT.out] at hg hn HPS
      have HLE := Lib.hid (len_any hg)
      have HG := Lib.hid hg
      have HN := Lib.hid hn
      have HRL : Hid ((refOf (buildN nodes)).length = (buildN nodes).length) := Lib.hid (by unfold refOf; simp)
      obtain ⟨oa, oc, rfl⟩ := RowsC.shape hn
      rw [HRL.out]
      clear hg hn
      have gq : (((buildN nodes).length : Int) == ((buildN nodes).length : Int)) = true := by simp
      go_wp2_with fail
      refine HLE.out.mono ?_
      rintro e w5 ⟨rfl, rfl⟩
      go_wp2_with fail
      go_ret3
      exact ⟨bg, bm, S4, va, D, mb, _, rfl, HG.out, by rw [← HRL.out]; exact HN.out, HPS.out, hbel.out⟩
end Go.Proofs.Ytfphkbbgbfnhaaa
