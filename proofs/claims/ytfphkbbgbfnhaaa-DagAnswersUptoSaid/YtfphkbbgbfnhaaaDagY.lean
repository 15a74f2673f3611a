/- What the laws have in common; the law DagOrder. -/
import Derived.Test.YtfphkbbgbfnhaaaDagX
import Derived.Test.YtfphkbbgbfnhaaaNodeOpen
import Derived.Deep.QuietTactic
import Derived.BigQuiet
namespace Go.Proofs.Ytfphkbbgbfnhaaa
open Go.RowKit Go.Shelf Go.Maps Go.Lib Go.Sort

theorem BSt.gst {w W : World} {bg bm : Nat} {g : Gr} {vw : Value} (h : BSt w W bg bm g vw) : GSt w W bg bm g := by
  obtain ⟨S, va, D, mb, h1, _⟩ := h.ex
  exact ⟨⟨S, va, D, mb, h1⟩, h.ps, h.below⟩
theorem BSt.nodes {w W : World} {bg bm : Nat} {g : Gr} {vw : Value} (h : BSt w W bg bm g vw) : NodesC (fun q => q < W.heap.size) W vw (refOf g) := by
  obtain ⟨S, va, D, mb, _, h2⟩ := h.ex
  exact h2.kept node_keeps (fun q hq => ⟨hq.2.1, rfl⟩)
theorem BSt.good {w W : World} {bg bm : Nat} {g : Gr} {vw : Value} (h : BSt w W bg bm g vw) : Good g := h.gst.good
theorem BSt.len {w W : World} {bg bm : Nat} {g : Gr} {vw : Value} (h : BSt w W bg bm g vw) : g.length ≤ 65536 := by
  obtain ⟨S, va, D, mb, h1, _⟩ := h.ex
  exact h1.len
theorem BSt.size {w W : World} {bg bm : Nat} {g : Gr} {vw : Value} (h : BSt w W bg bm g vw) : w.heap.size ≤ W.heap.size := h.below.size
theorem refOf_len (g : Gr) : (refOf g).length = g.length := by unfold refOf; simp
theorem BSt.comes {w W : World} {bg bm : Nat} {g : Gr} {vw : Value} (h : BSt w W bg bm g vw) {x y : Txt} (hx : x.length ≤ 4194304) (hy : y.length ≤ 4194304) {r : Bool} (hr : comesB g x y = r) :
    Calls Try.prog 16 #[.pointer (some ⟨bg, 0, none⟩), .string ⟨x.toArray⟩, .string ⟨y.toArray⟩] W fun e w' => e = .returned (.bool r) ∧ BSt w w' bg bm g vw ∧ Below W.heap.size W w' := by
  subst hr
  exact (h.gst.comes hx hy).mono fun _ _ ⟨h1, h2⟩ => ⟨h1, h.on h2, h2⟩
theorem BSt.find {w W : World} {bg bm : Nat} {g : Gr} {vw : Value} (h : BSt w W bg bm g vw) {x : Txt} {r : Int} (hr : findN (refOf g) x = r) :
    Calls Try.prog 11 #[vw, .string ⟨x.toArray⟩] W fun e w' => e = .returned (.int .i64 r) ∧ W = w' := by
  subst hr
  refine find_any _ vw (refOf g) x W h.nodes ?_
  have := h.len
  rw [refOf_len]; omega
/-- Bounds of texts. -/
theorem sum_bounds {l : List (List UInt8)} {B : Nat} (h : sumL l ≤ B) (hB : B ≤ 4194304) : l.length ≤ B ∧ ∀ x ∈ l, x.length ≤ 4194304 :=
  ⟨Nat.le_trans (sumL_len l) h, fun x hx => by have := sumL_mem l x hx; omega⟩
/-- Bounds of nodes. -/
theorem node_bounds {nodes : List (Txt × List Txt)} {B : Nat} (h : sumR nodeB nodes ≤ B) (hB : B ≤ 4194304) : ∀ nd ∈ nodes, nd.1.length ≤ 4194304 ∧ nd.2.length ≤ 4194304 ∧ ∀ y ∈ nd.2, y.length ≤ 4194304 := by
  intro nd hnd
  have h1 : nd.1.length + sumL nd.2 + 1 ≤ sumR nodeB nodes := sumR_mem nodeB nodes nd hnd
  obtain ⟨h2, h3⟩ := sum_bounds (l := nd.2) (B := B) (by omega) hB
  exact ⟨by omega, by omega, fun y hy => by have := h3 y hy; omega⟩
/-- The graph of raw nodes is built. -/
theorem built_law (S3 : Nat → Prop) (v : Value) (nodes : List (Txt × List Txt)) (w : World) (hS3 : ∀ k, S3 k → k < w.heap.size) (h : NodesC S3 w v nodes) (hn : nodes.length ≤ 60) (hs : sumR nodeB nodes ≤ 1048576) :
    Calls Try.prog 10 #[v] w fun e w' => ∃ bg bm vw, e = .returned (.tuple #[.pointer (some ⟨bg, 0, none⟩), vw, .bool true]) ∧ BSt w w' bg bm (buildN nodes) vw := by
  refine (built_any S3 v nodes w hS3 h (by omega) (node_bounds hs (by omega))).mono ?_
  rintro e w' ⟨bg, bm, S, va, D, mb, vw, rfl, h1, h2, h3, h4⟩
  exact ⟨bg, bm, vw, rfl, ⟨S, va, D, mb, h1, h2⟩, h3, h4⟩
theorem comes_self {g : Gr} (hg : Good g) (a : Txt) : comesB g a a = decide (a ∈ names g) := by
  rw [Bool.eq_iff_iff, comes_iff hg, decide_eq_true_eq, in_names]
  exact ⟨fun h => h.1, fun h => ⟨h, h, .refl _⟩⟩
theorem comes_anti {g : Gr} (hg : Good g) {a b : Txt} (h1 : comesB g a b = true) (h2 : comesB g b a = true) : a = b := by
  rw [comes_iff hg] at h1 h2
  have := h1.2.2.anti hg h2.2.2
  rw [← nm_idx h1.1, ← nm_idx h1.2.1, this]
theorem comes_trans {g : Gr} (hg : Good g) {a b c : Txt} (h1 : comesB g a b = true) (h2 : comesB g b c = true) : comesB g a c = true := by
  rw [comes_iff hg] at h1 h2 ⊢
  exact ⟨h1.1, h2.2.1, h1.2.2.trans h2.2.2⟩
theorem comes_in {g : Gr} (hg : Good g) {a b : Txt} (h1 : comesB g a b = true) : a ∈ names g ∧ b ∈ names g := by
  rw [comes_iff hg] at h1
  exact ⟨in_names.2 h1.1, in_names.2 h1.2.1⟩
theorem find_iff (g : Gr) (a : Txt) : (a ∈ names g ∧ ∃ n : Nat, findN (refOf g) a = n) ∨ (a ∉ names g ∧ findN (refOf g) a = -1) := by
  by_cases h : a ∈ names g
  · exact Or.inl ⟨h, findN_in (by rw [refOf_names]; exact h)⟩
  · exact Or.inr ⟨h, findN_out (by rw [refOf_names]; exact h)⟩
set_option maxRecDepth 100000 in
set_option maxHeartbeats 8000000 in
theorem dorder_law (v : Value) (nodes : List (Txt × List Txt)) (a b c : Txt) (w : World) (h : NodesC (fun k => k < w.heap.size) w v nodes) (hs : sumR nodeB nodes ≤ 1048576) (hl : a.length + b.length + c.length ≤ 1048576) :
    Calls Try.prog 4 #[v, .agg #[.string ⟨a.toArray⟩, .string ⟨b.toArray⟩, .string ⟨c.toArray⟩]] w (TrueP w) := by
  unfold TrueP
  obtain ⟨na, nc, rfl⟩ := RowsC.shape h
  have hnl := sumR_len nodeB_pos nodes
  have ha : a.length ≤ 4194304 := by omega
  have hb : b.length ≤ 4194304 := by omega
  have hc : c.length ≤ 4194304 := by omega
  have H := Lib.hid (fun (W : World) (hb : Below w.heap.size w W) => RowsC.kept node_keeps h (S' := fun k => k < w.heap.size) (w' := W) (fun k hk => ⟨hk, hb.block k hk⟩))
  have hk := new_five w #[.string ⟨a.toArray⟩, .string ⟨b.toArray⟩, .string ⟨c.toArray⟩] 45
  have BX : Hid (Below w.heap.size w (w.alloc (.cells #[.string ⟨a.toArray⟩, .string ⟨b.toArray⟩, .string ⟨c.toArray⟩] 45))) := Lib.hid ((Below.refl _ w).alloc (Nat.le_refl _) _)
  have hsx : w.heap.size < (w.alloc (.cells #[.string ⟨a.toArray⟩, .string ⟨b.toArray⟩, .string ⟨c.toArray⟩] 45)).heap.size := by simp
  have HK := Lib.hid hk
  clear h hk hl
  go_enter Try.func4, Try.ntmps4
  go_wp2_with fail
  generalize w.alloc (.cells #[.string ⟨a.toArray⟩, .string ⟨b.toArray⟩, .string ⟨c.toArray⟩] 45) = wx at *
  refine (awake_any wx).mono ?_
  rintro e w1 ⟨rfl, b1⟩
  have B1 : Hid (Below w.heap.size w w1) := Lib.hid (BX.out.trans (b1.mono BX.out.size))
  have hk1 := (b1.block w.heap.size hsx).trans HK.out
  have q0 : w1.cell? ⟨w.heap.size, 0, none⟩ = some (.string ⟨a.toArray⟩) := by rw [cell_of_row _ _ _ _ _ _ hk1]; rfl
  have q1 : w1.cell? ⟨w.heap.size, 1, none⟩ = some (.string ⟨b.toArray⟩) := by rw [cell_of_row _ _ _ _ _ _ hk1]; rfl
  have q2 : w1.cell? ⟨w.heap.size, 2, none⟩ = some (.string ⟨c.toArray⟩) := by rw [cell_of_row _ _ _ _ _ _ hk1]; rfl
  clear hk1 HK b1 hsx BX
  go_upto_region 3 with fail
  go_quiet (fail)
  have B1d : Hid (Below w.heap.size w (w1.drewN nq)) := Lib.hid (B1.out.trans (drewn _ w1 nq))
  clear q0 q1 q2 B1
  generalize w1.drewN nq = w2 at *
  by_cases h60 : 60 < nodes.length
  · go_wp2_with fail
    go_ret
    exact ⟨rfl, B1d.out⟩
  have HB := Lib.hid (built_law (fun k => k < w.heap.size) _ nodes w2 (fun k hk => Nat.lt_of_lt_of_le hk B1d.out.size) (H.out w2 B1d.out) (by omega) hs)
  go_wp2_with fail
  refine HB.out.mono ?_
  rintro e w3 ⟨bg, bm, vw, rfl, g3⟩
  have G3 := Lib.hid g3
  have BE : Hid (∀ W, BSt w2 W bg bm (buildN nodes) vw → Below w.heap.size w W) := Lib.hid (fun W hW => B1d.out.trans (hW.below.mono B1d.out.size))
  have hg := g3.good
  have hself := comes_self hg a
  have hanti := Lib.hid (fun h1 h2 => comes_anti hg (a := a) (b := b) h1 h2)
  have htrans := Lib.hid (fun h1 h2 => comes_trans hg (a := a) (b := b) (c := c) h1 h2)
  have hin := Lib.hid (fun h1 => (comes_in hg (a := a) (b := b) h1).1)
  clear g3 hg HB H B1d
  generalize buildN nodes = g at *
  obtain ⟨x, hx⟩ : ∃ x, comesB g a b = x := ⟨_, rfl⟩
  obtain ⟨y, hy⟩ : ∃ y, comesB g b c = y := ⟨_, rfl⟩
  obtain ⟨z, hz⟩ : ∃ z, comesB g b a = z := ⟨_, rfl⟩
  obtain ⟨t, ht⟩ : ∃ t, comesB g a c = t := ⟨_, rfl⟩
  have HX := Lib.hid hx
  have HY := Lib.hid hy
  have HZ := Lib.hid hz
  have HT := Lib.hid ht
  have HXT : Hid (x = true → y = true → t = true) := Lib.hid (fun h1 h2 => ht ▸ htrans.out (hx.trans h1) (hy.trans h2))
  have HXZ : Hid (x = true → z = true → a = b) := Lib.hid (fun h1 h2 => hanti.out (hx.trans h1) (hz.trans h2))
  have HXI : Hid (x = true → a ∈ names g) := Lib.hid (fun h1 => hin.out (hx.trans h1))
  clear hx hy hz ht hanti htrans hin
  rcases find_iff g a with ⟨hm, n, hn⟩ | ⟨hm, hn⟩
  · have hself' : comesB g a a = true := by rw [hself]; simpa using hm
    have HS := Lib.hid hself'
    have HN := Lib.hid hn
    have hge : decide ((0 : Int) ≤ (n : Int)) = true := by simp
    clear hself hself' hm hn
    go_wp2_with fail
    refine (G3.out.find HN.out).mono ?_
    rintro e w4 ⟨rfl, rfl⟩
    go_wp2_with fail
    refine (G3.out.comes ha hb HX.out).mono ?_
    rintro e w5 ⟨rfl, g5, _⟩
    have G5 := Lib.hid g5
    clear g5
    go_wp2_with fail
    refine (G5.out.comes hb hc HY.out).mono ?_
    rintro e w6 ⟨rfl, g6, _⟩
    have G6 := Lib.hid g6
    clear g6
    go_wp2_with fail
    refine (G6.out.comes ha ha HS.out).mono ?_
    rintro e w7 ⟨rfl, g7, _⟩
    have G7 := Lib.hid g7
    clear g7
    cases x
    · go_wp2_with fail
      go_ret
      exact ⟨rfl, BE.out _ G7.out⟩
    · have hab : Hid (z = true → (a == b) = true) := Lib.hid (fun hz => by rw [HXZ.out rfl hz]; simp)
      have hxt := Lib.hid (HXT.out rfl)
      go_wp2_with fail
      refine (G7.out.comes hb ha HZ.out).mono ?_
      rintro e w8 ⟨rfl, g8, _⟩
      have G8 := Lib.hid g8
      clear g8
      cases y
      · cases z
        · clear hab
          go_wp2_with fail
          go_ret
          exact ⟨rfl, BE.out _ G8.out⟩
        · have gab := hab.out rfl
          clear hab
          go_wp2_with fail
          go_ret
          exact ⟨rfl, BE.out _ G8.out⟩
      · obtain rfl := hxt.out rfl
        cases z
        · clear hab
          go_wp2_with fail
          refine (G8.out.comes ha hc HT.out).mono ?_
          rintro e w9 ⟨rfl, g9, _⟩
          have G9 := Lib.hid g9
          clear g9
          go_wp2_with fail
          go_ret
          exact ⟨rfl, BE.out _ G9.out⟩
        · have gab := hab.out rfl
          clear hab
          go_wp2_with fail
          refine (G8.out.comes ha hc HT.out).mono ?_
          rintro e w9 ⟨rfl, g9, _⟩
          have G9 := Lib.hid g9
          clear g9
          go_wp2_with fail
          go_ret
          exact ⟨rfl, BE.out _ G9.out⟩
  · have hself' : comesB g a a = false := by rw [hself]; simpa using hm
    have hx0 : x = false := by
      cases x
      · rfl
      · exact absurd (HXI.out rfl) hm
    subst hx0
    have HS := Lib.hid hself'
    have HN := Lib.hid hn
    clear hself hself' hm hn
    go_wp2_with fail
    refine (G3.out.find HN.out).mono ?_
    rintro e w4 ⟨rfl, rfl⟩
    go_wp2_with fail
    refine (G3.out.comes ha hb HX.out).mono ?_
    rintro e w5 ⟨rfl, g5, _⟩
    have G5 := Lib.hid g5
    clear g5
    go_wp2_with fail
    refine (G5.out.comes hb hc HY.out).mono ?_
    rintro e w6 ⟨rfl, g6, _⟩
    have G6 := Lib.hid g6
    clear g6
    go_wp2_with fail
    refine (G6.out.comes ha ha HS.out).mono ?_
    rintro e w7 ⟨rfl, g7, _⟩
    have G7 := Lib.hid g7
    clear g7
    go_wp2_with fail
    go_ret
    exact ⟨rfl, BE.out _ G7.out⟩
end Go.Proofs.Ytfphkbbgbfnhaaa
