/- The walk of Add. -/
import Derived.Test.YtfphkbbgbfnhaaaDagP
import Derived.OrdersHeld
namespace Go.Proofs.Ytfphkbbgbfnhaaa
open Go.RowKit Go.Shelf Go.Maps Go.Lib Go.Sort

theorem clone_any (x : Txt) (w : World) (hx : x.length ≤ 4194304) : Calls Try.prog 39 #[.string ⟨x.toArray⟩] w fun e w' => e = .returned (.string ⟨x.toArray⟩) ∧ Below w.heap.size w w' := by
  have HC := Lib.hid (Try.stringslite_Clone ⟨x.toArray⟩ w (by simp [ByteArray.size]; omega))
  go_enter Try.func39, Try.ntmps39
  go_wp2_with fail
  refine HC.out.mono ?_
  rintro e w1 ⟨rfl, hb⟩
  have HB := Lib.hid hb
  clear hb
  go_wp2_with fail
  go_ret
  exact ⟨rfl, HB.out⟩
/-- What Add leaves where it takes the node. -/
structure Added (B : Nat) (S : Nat → Prop) (w w' : World) (bg bm : Nat) (va : Value) (mb : Nat → Nat) (g : Gr) (x : Txt) (l : List Txt) (S2 : Nat → Prop) (va2 : Value) (D2 : DataW Unit) (mb2 : Nat → Nat) (r : List Nat) : Prop where
  gr : GrAt B S2 w' bg bm va2 D2 mb2 (g ++ [⟨x, r⟩])
  asc : r.Pairwise (fun a b => nmOf g a < nmOf g b)
  mem : ∀ i, i ∈ r ↔ i ∈ l.map (idxN g)
  low : ∀ k, GrDom S2 va2 k → GrDom S va k ∨ w.heap.size ≤ k
  tu : Turns (GrDom S va) w w'
def AddP (B : Nat) (S : Nat → Prop) (w : World) (bg bm : Nat) (va : Value) (mb : Nat → Nat) (g : Gr) (x : Txt) (l : List Txt) (e : Ending) (w' : World) : Prop :=
  (idxN g x < g.length ∧ e = .returned (.int .i64 5) ∧ Below w.heap.size w w') ∨
  (¬ idxN g x < g.length ∧ (∃ y ∈ l, ¬ idxN g y < g.length) ∧ e = .returned (.int .i64 4) ∧ Below w.heap.size w w') ∨
  (¬ idxN g x < g.length ∧ (∀ y ∈ l, idxN g y < g.length) ∧ e = .returned (.int .i64 0) ∧ ∃ S2 va2 D2 mb2 r, Added B S w w' bg bm va mb g x l S2 va2 D2 mb2 r)
/-- What sorted and Clone leave, in either order. -/
structure Mid (w1 wB : World) (mb : Nat → Nat) (g : Gr) (l : List Nat) (av v' : Value) (r : List Nat) : Prop where
  row : wB.ownsRow w1.heap.size 59 1 v' r.length (pv mb r)
  asc : r.Pairwise (fun a b => nmOf g a < nmOf g b)
  mem : ∀ i, i ∈ r ↔ i ∈ l
  gr : w1.grownBy wB av.ownBlock
theorem row_later {w w' : World} {B e sz n : Nat} {v : Value} {xs : List Value} (h : w.ownsRow B e sz v n xs) (hb : Below w.heap.size w w') : w'.ownsRow B e sz v n xs := own_below h (fun k _ hk => hb.block k hk)
theorem row_past {w w' : World} {B e sz n bm : Nat} {v : Value} {xs : List Value} (h : w.ownsRow B e sz v n xs) (hg : w.grownBy w' (some bm)) (hne : v.ownBlock ≠ some bm) : w'.ownsRow B e sz v n xs := by
  refine ⟨h.1, ?_⟩
  rcases h.2 with e | ⟨b, cap, cur, e1, e2, e3, e4⟩
  · exact Or.inl e
  · exact Or.inr ⟨b, cap, cur, e1, e2, (hg.block b (Array.getElem?_eq_some_iff.1 e3).1 (fun e => hne (by rw [e1]; injection e with e; rw [← e]; rfl))).trans e3, e4⟩
theorem GrAt.ne_bm {B : Nat} {S : Nat → Prop} {w : World} {bg bm : Nat} {va : Value} {D : DataW Unit} {mb : Nat → Nat} {g : Gr} (h : GrAt B S w bg bm va D mb g) : bg ≠ bm := fun e => by
  obtain ⟨es, ck, hb, _⟩ := h.own
  have := h.c0
  rw [e] at this
  unfold World.cell? at this
  simp [hb] at this
theorem add_fin {B : Nat} {S : Nat → Prop} {bg bm nb : Nat} {va v' v5 av : Value} {D : DataW Unit} {mb : Nat → Nat} {g : Gr} {x : Txt} {l : List Txt} {r : List Nat} {o1 : Obj} {w wr wB wC wD w5 : World} (h : GrAt B S w bg bm va D mb g) (hB : B ≤ w.heap.size) (hx : x.length ≤ 4194304) (hin : ¬ idxN g x < g.length) (hlen : g.length < 65536) (hall : ∀ y ∈ l, idxN g y < g.length)
    (h1 : Below w.heap.size w wr) (hav : ∀ q, av.ownBlock = some q → w.heap.size ≤ q ∧ q < wr.heap.size) (hM : Mid wr wB mb g (l.map (idxN g)) av v' r) (hnb : nb = wB.heap.size) (hC : ∀ k, k < wB.heap.size → wC.heap[k]? = wB.heap[k]?) (hC1 : wC.heap[nb]? = some (.cells #[.string ⟨x.toArray⟩, .int .i64 (g.length : Int), v'] 65 (0, 0))) (hC2 : wC.heap.size = nb + 1) (hC3 : wC.os = wB.os ∧ wC.tape = wB.tape ∧ wC.output = wB.output)
    (hD1 : wD.ownsMap Try.prog 9 ptrR bm (g.length + 1) (D.put (.string x) (.lit (.int .i64 (nb : Int))))) (hD : wC.grownBy wD (some bm)) (h5 : w5.ownsRow B 59 1 v5 (g.length + 1) (pv mb (List.range g.length) ++ [.pointer (some ⟨nb, 0, none⟩)])) (hg : Grew (wD.alloc o1) w5 va v5) :
    Added B S w (w5.setCell ⟨bg, 1, none⟩ v5) bg bm va mb g x l (fun k => S k ∨ k = nb ∨ v'.ownBlock = some k) v5 (D.put (.string x) (.lit (.int .i64 (nb : Int)))) (fun i => if i = g.length then nb else mb i) r := by
  have s1 := h1.size
  have s2 := hM.gr.size
  have s3 := hD.size
  have s4 := hg.size
  have s4' : wD.heap.size + 1 ≤ w5.heap.size := by simpa using s4
  have sz : (w5.setCell ⟨bg, 1, none⟩ v5).heap.size = w5.heap.size := by simp
  have hbgl := (h.dom bg h.sg).2
  have hbml := (h.dom bm h.sm).2
  have hval : ∀ q, va.ownBlock = some q → q < w.heap.size ∧ ¬ S q := fun q hq => ⟨(World.ownsRow.lt h.row q hq).2, h.rowS q hq⟩
  have hv' : ∀ q, v'.ownBlock = some q → wr.heap.size ≤ q ∧ q < wB.heap.size := fun q hq => World.ownsRow.lt hM.row q hq
  -- what a step leaves, block by block
  have k1 : ∀ k, k < w.heap.size → wB.heap[k]? = w.heap[k]? := fun k hk => (hM.gr.block k (by omega) (fun e => by have := (hav k e.symm).1; omega)).trans (h1.block k hk)
  have k2 : ∀ k, k < wC.heap.size → k ≠ bm → wD.heap[k]? = wC.heap[k]? := fun k hk hne => hD.block k hk (fun e => hne (by injection e))
  have k3 : ∀ k, k < wD.heap.size → va.ownBlock ≠ some k → w5.heap[k]? = wD.heap[k]? := fun k hk hne => (hg.gb.block k (by simp; omega) (fun e => hne e.symm)).trans (Below.heap_alloc _ _ _ hk)
  have k4 : ∀ k, k ≠ bg → (w5.setCell ⟨bg, 1, none⟩ v5).heap[k]? = w5.heap[k]? := fun k hk => Below.heap_setCell _ _ _ _ hk
  have kk : ∀ k, k < w.heap.size → k ≠ bm → k ≠ bg → va.ownBlock ≠ some k → (w5.setCell ⟨bg, 1, none⟩ v5).heap[k]? = w.heap[k]? := fun k hk a b c =>
    (k4 k b).trans ((k3 k (by omega) c).trans ((k2 k (by omega) a).trans ((hC k (by omega)).trans (k1 k hk))))
  have hbgm : bg ≠ bm := fun e => by
    obtain ⟨es, ck, hb, _⟩ := h.own
    have := h.c0
    rw [e] at this
    unfold World.cell? at this
    simp [hb] at this
  have hbg5 : w5.heap[bg]? = w.heap[bg]? := (k3 bg (by omega) (fun e => (hval bg e).2 h.sg)).trans ((k2 bg (by omega) hbgm).trans ((hC bg (by omega)).trans (k1 bg hbgl)))
  have hv5 : ∀ k, v5.ownBlock = some k → va.ownBlock = some k ∨ wD.heap.size < k := fun k hk => by
    rcases hg.own k hk with e | e
    · exact Or.inl e
    · right; simp at e; omega
  have hv5bg : v5.ownBlock ≠ some bg := fun e => by
    rcases hv5 bg e with e2 | e2
    · exact (hval bg e2).2 h.sg
    · omega
  have hnbz : (w5.setCell ⟨bg, 1, none⟩ v5).heap[nb]? = wC.heap[nb]? := (k4 nb (by omega)).trans ((k3 nb (by omega) (fun e => by have := (hval nb e).1; omega)).trans (k2 nb (by omega) (by omega)))
  refine ⟨?_, hM.asc, hM.mem, ?_, ?_⟩
  · refine h.push hin hx (fun i hi => ?_) hlen hB ⟨by omega, by rw [sz]; omega⟩ (fun k hk => by have := hv' k hk; rw [sz]; omega) (fun k hk a b => kk k (h.dom k hk).2 b a (fun e => (hval k e).2 hk)) ?_ (fun k hk => ?_) ?_ ?_ ?_ ?_ (hnbz.trans hC1) ?_
    · obtain ⟨y, hy, rfl⟩ := List.mem_map.1 ((hM.mem i).1 hi)
      exact hall y hy
    · refine ⟨h5.1, ?_⟩
      rcases h5.2 with e | ⟨b, cap, cur, e1, e2, e3, e4⟩
      · exact Or.inl e
      · exact Or.inr ⟨b, cap, cur, e1, e2, (k4 b (fun e => hv5bg (by rw [e1, ← e]; rfl))).trans e3, e4⟩
    · rcases hv5 k hk with e | e
      · obtain ⟨a, b⟩ := hval k e
        exact ⟨b, by omega, fun e2 => by have := hv' k e2; omega⟩
      · exact ⟨fun hs => by have := (h.dom k hs).2; omega, by omega, fun e2 => by have := hv' k e2; omega⟩
    · rw [World.cell?_setCell_other _ _ _ _ (by intro c; injection c with _ c _; omega)]
      exact (World.cell?_of_block (w := w) hbg5).trans h.c0
    · exact World.cell?_setCell_same _ _ _ ((World.cell?_of_block (w := w) (a := ⟨bg, 1, none⟩) hbg5).trans h.c1)
    · rw [World.frozen?_setCell]
      exact (World.frozen?_of_block (w := w) (a := ⟨bg, 1, none⟩) hbg5).trans h.f1
    · obtain ⟨es, clock, hb, F, hs, hDD⟩ := hD1
      exact ⟨es, clock, (k4 bm (fun e => hbgm e.symm)).trans ((k3 bm (by omega) (fun e => (hval bm e).2 h.sm)).trans hb), F, hs, hDD⟩
    · refine (own_self hM.row (pv_one _ _)).kept (fun k hk => ⟨hk, ?_⟩)
      have := hv' k hk
      exact (k4 k (by omega)).trans ((k3 k (by omega) (fun e => by have := (hval k e).1; omega)).trans ((k2 k (by omega) (by omega)).trans (hC k (by omega))))
  · rintro k ((hk | rfl | hk) | hk)
    · exact Or.inl (Or.inl hk)
    · exact Or.inr (by omega)
    · exact Or.inr (by have := hv' k hk; omega)
    · rcases hv5 k hk with e | e
      · exact Or.inl (Or.inr e)
      · exact Or.inr (by omega)
  · refine ⟨hg.gb.os.trans (hD.os.trans (hC3.1.trans (hM.gr.os.trans h1.os))), hg.gb.tape.trans (hD.tape.trans (hC3.2.1.trans (hM.gr.tape.trans h1.tape))), hg.gb.output.trans (hD.output.trans (hC3.2.2.trans (hM.gr.output.trans h1.output))), by rw [sz]; omega, fun k hk hd => ?_⟩
    exact kk k hk (fun e => hd (Or.inl (by rw [e]; exact h.sm))) (fun e => hd (Or.inl (by rw [e]; exact h.sg))) (fun e => hd (Or.inr e))
set_option maxRecDepth 100000 in
set_option maxHeartbeats 16000000 in
theorem add_any (B : Nat) (S S3 : Nat → Prop) (bg bm : Nat) (va v2 : Value) (D : DataW Unit) (mb : Nat → Nat) (g : Gr) (x : Txt) (l : List Txt) (w : World) (h : GrAt B S w bg bm va D mb g) (hB : B ≤ w.heap.size) (hS3 : ∀ k, S3 k → k < w.heap.size) (hv : StrsC S3 w v2 l) (hl : l.length ≤ 4194304) (hx : x.length ≤ 4194304) (hy : ∀ y ∈ l, y.length ≤ 4194304) (hlen : g.length < 65536) :
    Calls Try.prog 24 #[.pointer (some ⟨bg, 0, none⟩), .string ⟨x.toArray⟩, v2] w (AddP B S w bg bm va mb g x l) := by
  obtain ⟨i0, hi, hz0, hz1, hz2⟩ := info_parts Try.info59p
  have HG := Lib.hid h
  have HV := Lib.hid hv
  have HY : Hid (∀ j, j < l.length → (l.getD j []).length ≤ 4194304) := Lib.hid (fun j hj => by rw [getD_at hj]; exact hy _ (List.getElem_mem hj))
  have hdl : Hid (∀ k, GrDom S va k → B ≤ k ∧ k < w.heap.size) := Lib.hid h.domlt
  have c0 := h.c0
  have hlk := h.look hx
  obtain ⟨la, lc, rfl⟩ := hv.shape
  by_cases hin : idxN g x < g.length
  · rw [if_pos hin] at hlk
    have HI := Lib.hid hin
    generalize mb (idxN g x) = mi at *
    clear h hv hy hin
    go_enter Try.func24, Try.ntmps24
    go_wp2_with fail
    go_ret
    exact Or.inl ⟨HI.out, rfl, Below.refl _ _⟩
  · rw [if_neg hin] at hlk
    have HI := Lib.hid hin
    have HW0 := Lib.hid (Below.refl w.heap.size w)
    clear h hv hy hin
    go_enter Try.func24, Try.ntmps24
    go_wp2_with fail
    go_loopw [7, 21] (fun o i wr => ∃ k : Nat, k ≤ l.length ∧ i = .int .i64 k ∧ Hid (wr.ownsRow w.heap.size 59 1 o k (pv mb ((l.take k).map (idxN g)))) ∧ Hid (∀ y ∈ l.take k, idxN g y < g.length) ∧ Hid (Below w.heap.size w wr)) (fun _ i _ => l.length - (intOf i).toNat)
    case atStart => exact ⟨0, Nat.zero_le _, rfl, Lib.hid (World.ownsRow_nil _ _ _ _), Lib.hid (by simp), HW0⟩
    case round =>
      obtain ⟨k, hk, rfl, hO, hA, hW⟩ := hrel
      obtain ⟨oa, oc, rfl⟩ := row_slice hO.out
      have hsz := hW.out.size
      by_cases hlt : k < l.length
      · obtain ⟨pg, po, rfl, hpS, _, _, hpc⟩ := HV.out.at (by omega)
        have p1 := (World.cell?_of_block (w := w) (a := ⟨pg, po + k, none⟩) (hW.out.block pg (hS3 pg hpS))).trans (hpc k hlt)
        have hgr := HG.out.below hW.out
        have d0 := hgr.c0
        have dl := hgr.look (HY.out k hlt)
        have HT : Hid (l.take (k + 1) = l.take k ++ [l.getD k []]) := Lib.hid (take_snoc hlt)
        have HGE : Hid (l.getD k [] ∈ l) := Lib.hid (by rw [getD_at hlt]; exact List.getElem_mem hlt)
        clear hpc hgr c0 hlk
        by_cases hj : idxN g (l.getD k []) < g.length
        · rw [if_pos hj] at dl
          have HJ := Lib.hid hj
          have hlm : k + 1 ≤ 4194305 := by omega
          have HAP : Hid ((l.take (k + 1)).map (idxN g) = (l.take k).map (idxN g) ++ [idxN g (l.getD k [])]) := Lib.hid (by rw [HT.out, List.map_append]; rfl)
          clear hj
          generalize hi2 : idxN g (l.getD k []) = j at *
          have HI2 := Lib.hid hi2
          clear hi2
          generalize hll : (l.take k).map (idxN g) = d at *
          generalize l.getD k [] = y at *
          go_wp2_with (at_builtin; refine wpList_own_src _ rfl _ _ 61 61 rfl w.heap.size 59 i0 (.pointer none) 1 8 Try.underlying61 hi hz0 hz1 hz2 rfl (by decide) _ _ _ rfl (World.ownsRow.alloc hO.out _) _ 1 [.pointer (some ⟨mb j, 0, none⟩)] rfl (srcP_one _ _) (by unfold maxLen; omega) (by omega) (by simp; omega) ?_)
          intro v5 w5 hown5 hg5
          have O5 : Hid (w5.ownsRow w.heap.size 59 1 v5 (k + 1) (pv mb ((l.take (k + 1)).map (idxN g)))) := Lib.hid (by
            rw [HAP.out]; unfold pv; rw [List.map_append]; exact hown5)
          have B5 : Hid (Below w.heap.size w w5) := Lib.hid ((hW.out.alloc hW.out.size _).grown hg5.gb (by simp; omega) (fun q hq => (World.ownsRow.lt hO.out q hq).1))
          have A5 : Hid (∀ z ∈ l.take (k + 1), idxN g z < g.length) := Lib.hid (fun z hz => by
            rw [HT.out] at hz
            rcases List.mem_append.1 hz with hz | hz
            · exact hA.out z hz
            · rw [List.mem_singleton] at hz; rw [hz, HI2.out]; exact HJ.out)
          clear hown5 hg5
          go_wp2_with fail
          go_roundw
          case rel => exact ⟨k + 1, by omega, by go_num, O5, A5, B5⟩
          case measure => simp [intOf]; omega
        · rw [if_neg hj] at dl
          have HJ := Lib.hid hj
          clear hj
          generalize l.getD k [] = y at *
          go_wp2_with fail
          go_ret
          exact Or.inr (Or.inl ⟨HI.out, ⟨y, HGE.out, HJ.out⟩, rfl, hW.out⟩)
      · have hkl : k = l.length := by omega
        have HALL : Hid (∀ y ∈ l, idxN g y < g.length) := Lib.hid (by have := hA.out; rwa [hkl, List.take_of_length_le (Nat.le_refl _)] at this)
        have HO2 : Hid (wr.ownsRow w.heap.size 59 1 (.slice oa k oc) (l.map (idxN g)).length (pv mb (l.map (idxN g)))) := Lib.hid (by
          have := hO.out
          rw [hkl, List.take_of_length_le (Nat.le_refl _)] at this
          rw [List.length_map, hkl]; exact this)
        have hgr := HG.out.below hW.out
        have d1 := hgr.c1
        obtain ⟨va1, vc1, rfl⟩ := row_slice hgr.row
        have hgrow : Hid (GrAt B S wr bg bm (.slice va1 g.length vc1) D mb g) := Lib.hid hgr
        have HSo : Hid (∀ W : World, Below wr.heap.size wr W → Calls Try.prog 40 #[.slice oa k oc] W fun e W' => ∃ v' r, e = .returned v' ∧ W'.ownsRow W.heap.size 59 1 v' r.length (pv mb r) ∧ r.Pairwise (fun a b => nmOf g a < nmOf g b) ∧ (∀ i, i ∈ r ↔ i ∈ l.map (idxN g)) ∧ W.grownBy W' (Value.slice oa k oc).ownBlock) := Lib.hid (fun W hb =>
          sorted_any B w.heap.size S bg bm _ _ D mb g (l.map (idxN g)) W (hgrow.out.below hb) (row_later HO2.out hb) (fun q hq hd => by
            have h1 := (World.ownsRow.lt HO2.out q hq).1
            have h2 := (hdl.out q hd).2
            omega) (fun i hi3 => by
            obtain ⟨y, hy1, rfl⟩ := List.mem_map.1 hi3
            exact HALL.out y hy1) (by rw [List.length_map]; exact hl))
        have HCl := Lib.hid (fun W => clone_any x W hx)
        have HOL := Lib.hid (fun q hq => (World.ownsRow.lt HO2.out q hq).1)
        have hbg : bg < wr.heap.size ∧ ∀ q, (Value.slice oa k oc).ownBlock = some q → q ≠ bg := ⟨(hgrow.out.dom bg hgrow.out.sg).2, fun q hq e => by
          have h1 := HOL.out q hq
          have h2 := (hdl.out bg (Or.inl hgrow.out.sg)).2
          omega⟩
        have HBG := Lib.hid hbg
        have HVL := Lib.hid (fun q (hq : (Value.slice oa k oc).ownBlock = some q) => (World.ownsRow.lt HO2.out q hq).2)
        clear hkl hgr hA c0 hlk hbg
        obtain ⟨n, hn⟩ : ∃ n, g.length = n := ⟨_, rfl⟩
        have HN := Lib.hid hn
        rw [hn] at hlen d1 ⊢
        clear hn
        have hd : decide ((65536 : Int) ≤ (n : Int)) = false := decide_eq_false (by omega)
        have hn9 : (n : Int) ≤ 9223372036854775807 := by omega
        have hn8 : n < 9223372036854775807 := by omega
        have HLN := Lib.hid hlen
        clear hlen
        go_wp2_with fail
        refine wp_region_held_drew (S := (fun W' => W'.cell? ⟨bg, 1, none⟩ = some (.slice va1 n vc1))) (by kernel_rfl) (by exact d1) (fun hHeld => ?_)
        refine wpAnyH_take (i := 0) (oi := ⟨_, _, _, _, _, _⟩) (v := ?_) rfl (by kernel_rfl) (by kernel_rfl) (by kernel_rfl) (fun _ _ _ h => h) (Or.inl ⟨by rfl, ?_⟩) (by assumption) ?_
        rotate_left
        · intro w hSw; (try dsimp only at hSw); first | (go_simp; done) | (go_simp; with_reducible rfl)
        try simp only [Act.put, List.setIfInBounds_toArray, List.set_cons_zero, List.set_cons_succ]
        refine wpAnyH_take (i := 2) (oi := ⟨_, _, _, _, _, _⟩) (v := ?_) rfl (by kernel_rfl) (by kernel_rfl) (by kernel_rfl) (fun _ _ _ h => h) (Or.inl ⟨by rfl, ?_⟩) (by assumption) ?_
        rotate_left
        · intro w hSw; (try dsimp only at hSw); first | (go_simp; done) | (go_simp; with_reducible rfl)
        try simp only [Act.put, List.setIfInBounds_toArray, List.set_cons_zero, List.set_cons_succ]
        refine wpAnyH_take (i := 3) (oi := ⟨_, _, _, _, _, _⟩) (v := ?_) rfl (by kernel_rfl) (by kernel_rfl) (by kernel_rfl) (fun _ _ _ h => h) (Or.inl ⟨by rfl, ?_⟩) (by assumption) ?_
        rotate_left
        · intro w hSw; (try dsimp only at hSw); first | (go_simp; done) | (go_simp; with_reducible rfl)
        try simp only [Act.put, List.setIfInBounds_toArray, List.set_cons_zero, List.set_cons_succ]
        refine wpAnyH_take (i := 4) (oi := ⟨_, _, _, _, _, _⟩) (v := ?_) rfl (by kernel_rfl) (by kernel_rfl) (by kernel_rfl) (fun _ _ _ h => h) (Or.inl ⟨by rfl, ?_⟩) (by assumption) ?_
        rotate_left
        · intro w hSw; (try dsimp only at hSw); first | (go_simp; done) | (go_simp; with_reducible rfl)
        try simp only [Act.put, List.setIfInBounds_toArray, List.set_cons_zero, List.set_cons_succ]
        refine wpAnyH_take (i := 5) (oi := ⟨_, _, _, _, _, _⟩) (v := ?_) rfl (by kernel_rfl) (by kernel_rfl) (by kernel_rfl) (fun _ _ _ h => h) (Or.inl ⟨by rfl, ?_⟩) (by assumption) ?_
        rotate_left
        · intro w hSw; (try dsimp only at hSw); first | (go_simp; done) | (go_simp; with_reducible rfl)
        try simp only [Act.put, List.setIfInBounds_toArray, List.set_cons_zero, List.set_cons_succ]
        refine wpAnyH_take (i := 6) (oi := ⟨_, _, _, _, _, _⟩) (v := ?_) rfl (by kernel_rfl) (by kernel_rfl) (by kernel_rfl) (fun _ _ _ h => h) (Or.inl ⟨by rfl, ?_⟩) (by assumption) ?_
        rotate_left
        · intro w hSw; (try dsimp only at hSw); first | (go_simp; done) | (go_simp; with_reducible rfl)
        try simp only [Act.put, List.setIfInBounds_toArray, List.set_cons_zero, List.set_cons_succ]
        refine wpAnyH_take (i := 7) (oi := ⟨_, _, _, _, _, _⟩) (v := ?_) rfl (by kernel_rfl) (by kernel_rfl) (by kernel_rfl) (fun _ _ _ h => h) (Or.inl ⟨by rfl, ?_⟩) (by assumption) ?_
        rotate_left
        · intro w hSw; (try dsimp only at hSw); first | (go_simp; done) | (go_simp; with_reducible rfl)
        try simp only [Act.put, List.setIfInBounds_toArray, List.set_cons_zero, List.set_cons_succ]
        refine wpAnyH_ready (rs := [1]) (by kernel_rfl) (by simp) ?_
        refine AllReadyH.cons (o := ⟨_, _, _, _, _, _⟩) rfl (fun K hK => ?_) AllReadyH.nil
        go_simp
        refine (HCl.out _).mono ?_
        rintro e wA ⟨rfl, bA⟩
        have BA : Hid (Below wr.heap.size wr wA) := Lib.hid ((drewn _ wr 1).trans bA)
        clear bA
        have hkeep := (World.cell?_of_block (w := wr) (a := ⟨bg, 1, none⟩) (BA.out.block bg HBG.out.1)).trans d1
        try go_wp2_with fail
        refine hK.out _ _ (by exact hkeep) (fun hHeld => ?_)
        clear hK K
        try simp only [Act.put, List.setIfInBounds_toArray, List.set_cons_zero, List.set_cons_succ]
        refine wpAnyH_ready (rs := [8]) (by kernel_rfl) (by simp) ?_
        refine AllReadyH.cons (o := ⟨_, _, _, _, _, _⟩) rfl (fun K hK => ?_) AllReadyH.nil
        go_simp
        refine (HSo.out _ BA.out).mono ?_
        rintro e wB ⟨v', r, rfl, o1, o2, o3, o4⟩
        obtain ⟨a5, c5, rfl⟩ := row_slice o1
        have HM : Hid (Mid wr wB mb g (l.map (idxN g)) (.slice oa k oc) (.slice a5 r.length c5) r) := Lib.hid ⟨own_base o1 BA.out.size, o2, o3, kb_trans (kb_any BA.out _) o4⟩
        clear o1 o2 o3 o4
        have hkeep := (World.cell?_of_block (w := wr) (a := ⟨bg, 1, none⟩) (HM.out.gr.block bg HBG.out.1 (fun e => HBG.out.2 bg e.symm rfl))).trans d1
        try go_wp2_with fail
        refine hK.out _ _ (by exact hkeep) (fun hHeld => ?_)
        clear hK K
        try simp only [Act.put, List.setIfInBounds_toArray, List.set_cons_zero, List.set_cons_succ]
        refine wpAnyH_take (i := 9) (oi := ⟨_, _, _, _, _, _⟩) (v := ?_) rfl (by kernel_rfl) (by kernel_rfl) (by kernel_rfl) (fun _ _ _ h => h) (Or.inl ⟨by rfl, ?_⟩) (by assumption) ?_
        rotate_left
        · intro w hSw; (try dsimp only at hSw); first | (go_simp; done) | (go_simp; with_reducible rfl)
        try simp only [Act.put, List.setIfInBounds_toArray, List.set_cons_zero, List.set_cons_succ]
        refine wpAnyH_ready (rs := [10]) (by kernel_rfl) (by simp) ?_
        refine AllReadyH.cons (o := ⟨_, _, _, _, _, _⟩) rfl (fun K hK => ?_) AllReadyH.nil
        go_simp
        have hkeep2 := (World.cell?_of_block (w := wB) (a := ⟨bg, 1, none⟩) (Below.heap_alloc wB (.cells #[.string ⟨x.toArray⟩, .int .i64 (n : Int), .slice a5 r.length c5] 65) bg (by have := HM.out.gr.size; have := HBG.out.1; omega))).trans hkeep
        try go_wp2_with fail
        refine hK.out _ _ (by exact hkeep2) (fun hHeld => ?_)
        clear hK K
        try simp only [Act.put, List.setIfInBounds_toArray, List.set_cons_zero, List.set_cons_succ]
        refine wpAnyH_take (i := 11) (oi := ⟨_, _, _, _, _, _⟩) (v := ?_) rfl (by kernel_rfl) (by kernel_rfl) (by kernel_rfl) (fun _ _ _ h => h) (Or.inl ⟨by rfl, ?_⟩) (by assumption) ?_
        rotate_left
        · intro w hSw; (try dsimp only at hSw); first | (go_simp; done) | (go_simp; with_reducible rfl)
        try simp only [Act.put, List.setIfInBounds_toArray, List.set_cons_zero, List.set_cons_succ]
        refine wpAnyH_done (by kernel_rfl) ?_ _
        have hb1 : Hid (∀ k, k < wB.heap.size → (wB.alloc (.cells #[.string ⟨x.toArray⟩, .int .i64 (n : Int), .slice a5 r.length c5] 65)).heap[k]? = wB.heap[k]?) := Lib.hid (fun k hk => Below.heap_alloc wB _ k hk)
        have hb2 := Lib.hid (new_five wB #[.string ⟨x.toArray⟩, .int .i64 (n : Int), .slice a5 r.length c5] 65)
        have hb3 : Hid ((wB.alloc (.cells #[.string ⟨x.toArray⟩, .int .i64 (n : Int), .slice a5 r.length c5] 65)).heap.size = wB.heap.size + 1) := Lib.hid (by simp)
        have hb4 : Hid ((wB.alloc (.cells #[.string ⟨x.toArray⟩, .int .i64 (n : Int), .slice a5 r.length c5] 65)).os = wB.os ∧ (wB.alloc (.cells #[.string ⟨x.toArray⟩, .int .i64 (n : Int), .slice a5 r.length c5] 65)).tape = wB.tape ∧ (wB.alloc (.cells #[.string ⟨x.toArray⟩, .int .i64 (n : Int), .slice a5 r.length c5] 65)).output = wB.output) := Lib.hid ⟨rfl, rfl, rfl⟩
        have hsB := HM.out.gr.size
        obtain ⟨wC, hwC⟩ : ∃ wC, wC = (wB.alloc (.cells #[.string ⟨x.toArray⟩, .int .i64 (n : Int), .slice a5 r.length c5] 65)) := ⟨_, rfl⟩
        rw [← hwC] at hb1 hb2 hb3 hb4
        have hbB := HBG.out.1
        have HGC : Hid (GrAt B S wC bg bm (.slice va1 g.length vc1) D mb g) := Lib.hid (hgrow.out.kept (fun q hq => (hb1.out q (by have := (hgrow.out.domlt q hq).2; omega)).trans (HM.out.gr.block q (hgrow.out.domlt q hq).2 (fun e => by have := HOL.out q e.symm; have := (hdl.out q hq).2; omega))) (by have := hb3.out; omega))
        rw [← hwC]
        clear hwC hkeep hkeep2 hHeld
        obtain ⟨nb, hnb⟩ : ∃ nb, wB.heap.size = nb := ⟨_, rfl⟩
        have HNB := Lib.hid hnb
        rw [hnb] at hb2 hb3 ⊢
        clear hnb
        have c0 := HGC.out.c0
        have m0 : wC.cell? ⟨nb, 0, none⟩ = some (.string ⟨x.toArray⟩) := by rw [cell_of_row _ _ _ _ _ _ hb2.out]; rfl
        have hkey := key_of hx
        have hown := Lib.hid (HGC.out.own)
        have hwl : n < maxLen := by unfold maxLen; omega
        rw [HN.out] at hown
        go_wp2_with fail
        go_still_tail 9, (by kernel_rfl)
        have hgm := HGC.out.ne_bm
        have HGM := Lib.hid hgm
        clear hgm
        go_wp2_with (first | (at_mapUpdate; refine wpList_mapUpdate_own _ rfl _ _ _ 60 rfl 9 59 keyLaw Try.underlying60 _ bm n D rfl hown.out.drew hwl _ _ _ rfl rfl hkey (.lit (.int .i64 (nb : Int))) [] rfl ?_; intro wD hownD hgrowD; have HD := Lib.hid hgrowD; have HDO := Lib.hid hownD; have sD : wC.heap.size ≤ wD.heap.size := hgrowD.size; have hBD : B ≤ wD.heap.size := (by have := hb3.out; have := HNB.out; omega); have d2 := (World.cell?_of_block (w := wC) (a := ⟨bg, 1, none⟩) (hgrowD.block bg (HGC.out.dom bg HGC.out.sg).2 (fun e => HGM.out (by injection e)))).trans HGC.out.c1; have d3 := (World.frozen?_of_block (w := wC) (a := ⟨bg, 1, none⟩) (hgrowD.block bg (HGC.out.dom bg HGC.out.sg).2 (fun e => HGM.out (by injection e)))).trans HGC.out.f1; rw [HN.out] at d2; have HRW : Hid (wD.ownsRow B 59 1 (.slice va1 n vc1) n (pv mb (List.range n))) := Lib.hid (row_past (by have hr := HGC.out.row; rwa [HN.out] at hr) hgrowD (fun e => HGC.out.rowS bm (by rw [HN.out]; exact e) HGC.out.sm)); clear hownD hgrowD) | (at_builtin; refine wpList_own_src _ rfl _ _ 61 61 rfl B 59 i0 (.pointer none) 1 8 Try.underlying61 hi hz0 hz1 hz2 rfl (by decide) _ _ _ rfl (World.ownsRow.alloc HRW.out _) _ 1 [.pointer (some ⟨nb, 0, none⟩)] rfl (srcP_one _ _) (by unfold maxLen; omega) (by have := HLN.out; omega) (by simp; omega) ?_; intro v5 w5 hown5 hg5; have O5 := Lib.hid hown5; have G5 := Lib.hid hg5; have q1 : w5.heap[bg]? = wD.heap[bg]? := (hg5.gb.block bg (by have := (HGC.out.dom bg HGC.out.sg).2; simp; omega) (fun e => HGC.out.rowS bg (by rw [HN.out]; exact e.symm) HGC.out.sg)).trans (Below.heap_alloc _ _ _ (by have := (HGC.out.dom bg HGC.out.sg).2; omega)); have q2 := (World.cell?_of_block (w := wD) (a := ⟨bg, 1, none⟩) q1).trans d2; have q3 := (World.frozen?_of_block (w := wD) (a := ⟨bg, 1, none⟩) q1).trans d3; obtain ⟨a6, c6, rfl⟩ := row_slice hown5; clear hown5 hg5 q1))
        go_ret
        have hn := HN.out
        subst hn
        exact Or.inr (Or.inr ⟨HI.out, HALL.out, rfl, _, _, _, _, r, add_fin (h := HG.out) hB hx HI.out HLN.out HALL.out hW.out (fun q hq => ⟨HOL.out q hq, HVL.out q hq⟩) HM.out HNB.out.symm hb1.out hb2.out hb3.out hb4.out HDO.out ⟨HD.out.os, HD.out.tape, HD.out.output, HD.out.size, HD.out.block⟩ O5.out G5.out⟩)
end Go.Proofs.Ytfphkbbgbfnhaaa
