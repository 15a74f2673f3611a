/- The walk of fast. -/
import Derived.Test.YtjlpdoppnhcjoaaDoorWeavE
import Derived.BigRegion
namespace Go.Proofs.YtjlpdoppnhcjoaaDoor
open Go.RowKit
attribute [local go_sem ↓] Go.wp_at_zero Go.wp_at_succ

/-- Triples of places as cells. -/
def p3 (P : List (Nat × Nat × Nat)) : List Value := P.flatMap fun p => [.int .i64 (p.1 : Int), .int .i64 (p.2.1 : Int), .int .i64 (p.2.2 : Int)]
theorem p3_append (P Q : List (Nat × Nat × Nat)) : p3 (P ++ Q) = p3 P ++ p3 Q := by unfold p3; simp
theorem p3_one (P : List (Nat × Nat × Nat)) : ∀ u ∈ p3 P, u.oneCell' = true := by
  intro u hu
  unfold p3 at hu
  obtain ⟨p, _, hp⟩ := List.mem_flatMap.1 hu
  simp at hp
  rcases hp with rfl | rfl | rfl <;> rfl
theorem p3_at : ∀ (P : List (Nat × Nat × Nat)) (k : Nat), k < P.length → (p3 P)[k * 3]? = some (.int .i64 ((P.getD k (0, 0, 0)).1 : Int)) ∧ (p3 P)[k * 3 + 1]? = some (.int .i64 ((P.getD k (0, 0, 0)).2.1 : Int)) ∧ (p3 P)[k * 3 + 2]? = some (.int .i64 ((P.getD k (0, 0, 0)).2.2 : Int))
  | [], k, h => by simp at h
  | p :: P, 0, _ => ⟨rfl, rfl, rfl⟩
  | p :: P, k + 1, h => by
    have ih := p3_at P k (by simpa using h)
    have e : ∀ i, (p3 (p :: P))[(k + 1) * 3 + i]? = (p3 P)[k * 3 + i]? := fun i => by
      show ([Value.int .i64 (p.1 : Int), .int .i64 (p.2.1 : Int), .int .i64 (p.2.2 : Int)] ++ p3 P)[(k + 1) * 3 + i]? = _
      rw [List.getElem?_append_right (by simp; omega)]
      congr 1
      simp; omega
    exact ⟨(e 0).trans ih.1, (e 1).trans ih.2.1, (e 2).trans ih.2.2⟩
def OwnT (w : World) (B : Nat) (v : Value) (P : List (Nat × Nat × Nat)) : Prop := w.ownsRow B 129 3 v P.length (p3 P)
def TripC (S : Nat → Prop) (w : World) (v : Value) (P : List (Nat × Nat × Nat)) : Prop := CellsC S w v P.length 3 (p3 P)
theorem ownT_nil (w : World) (B : Nat) : OwnT w B (.slice none 0 0) [] := World.ownsRow_nil _ _ _ _
theorem ownT_push {w2 : World} {B : Nat} {v : Value} {P : List (Nat × Nat × Nat)} {x y z : Nat} (h : w2.ownsRow B 129 3 v (P.length + 1) (p3 P ++ [.int .i64 (x : Int), .int .i64 (y : Int), .int .i64 (z : Int)])) : OwnT w2 B v (P ++ [(x, y, z)]) := by
  unfold OwnT
  rw [p3_append, List.length_append]; exact h
theorem ownT_slice {w : World} {B : Nat} {v : Value} {P : List (Nat × Nat × Nat)} (h : OwnT w B v P) : ∃ a cap, v = .slice a P.length cap := by
  rcases h.2 with ⟨e, hn⟩ | ⟨g, cap, cur, e, _⟩
  · rw [hn]; exact ⟨none, 0, e⟩
  · exact ⟨_, _, e⟩
theorem ownT_c {w : World} {B : Nat} {v : Value} {P : List (Nat × Nat × Nat)} (h : OwnT w B v P) : TripC (fun k => B ≤ k ∧ k < w.heap.size) w v P := own_cells h (p3_one P)
theorem srcT_one (w : World) (x y z : Int) : Src Tryd.prog 3 130 (.slice (some ⟨w.heap.size, 0, none⟩) 1 1) 1 [.int .i64 x, .int .i64 y, .int .i64 z] (w.alloc (.cells #[.int .i64 x, .int .i64 y, .int .i64 z] 129)) :=
  Src.ofSlice _ Tryd.underlying130 _ 1 1 _ rfl (fun j u hj => by
    rw [add_pos, Nat.zero_add, World.cell?_alloc_mark]; simpa using hj) (fun u hu => by
    simp at hu; rcases hu with rfl | rfl | rfl <;> rfl)
theorem Tryd.info129p : (Tryd.prog.info? 129).map (fun i => (i.zero, i.size, i.bytes)) = some (some (.agg #[.int .i64 0, .int .i64 0, .int .i64 0]), 3, 24) := by kernel_rfl
theorem und_pairs : Tryd.prog.underlying 124 = some (.slice (Tryd.prog.elem 124)) := by kernel_rfl
theorem size_pairs (W : World) : (sizeOf (Tryd.prog.elem 124)).run Tryd.prog W = .ok 2 W := by kernel_rfl
/-- The first pair of a list in memory, and what is left of it. -/
theorem pairs_first {S : Nat → Prop} {w : World} {a : Option Addr} {c : Nat} {p : Nat × Nat} {r : List (Nat × Nat)} (h : PairsC S w (.slice a (p :: r).length c) (p :: r)) :
    ∃ g o, a = some ⟨g, o, none⟩ ∧ S g ∧ w.cell? ⟨g, o, none⟩ = some (.int .i64 (p.1 : Int)) ∧ w.cell? ⟨g, o + 1, none⟩ = some (.int .i64 (p.2 : Int)) ∧
      PairsC S w (.slice (if c = 1 then some ⟨g, o, none⟩ else some ⟨g, o + 2, none⟩) r.length (c - 1)) r := by
  obtain ⟨g, o, rfl, hS, h1, h2, hc⟩ := CellsC.at h (by simp)
  refine ⟨g, o, rfl, hS, hc 0 _ rfl, hc 1 _ rfl, p2_len r, p2_one r, ?_⟩
  by_cases hr : r.length = 0
  · rw [hr]; exact Or.inl ⟨rfl, _, _, rfl⟩
  · have h3 : (p :: r).length = r.length + 1 := rfl
    rw [if_neg (by omega)]
    refine Or.inr ⟨g, o + 2, c - 1, rfl, hS, by omega, by unfold maxLen; omega, fun j u hj => ?_⟩
    have := hc (j + 2) u (by show (p2 (p :: r))[j + 2]? = _; exact hj)
    rw [show o + 2 + j = o + (j + 2) by omega]; exact this
/-- What fast leaves. -/
def FastP (w : World) (F : List (Nat × Nat × Nat)) (e : Ending) (w' : World) : Prop := ∃ v, e = .returned v ∧ OwnT w' w.heap.size v F ∧ Below w.heap.size w w'
set_option maxRecDepth 100000 in
set_option maxHeartbeats 8000000 in
theorem fast_any (S T : Nat → Prop) (va vb : Value) (P Q : List (Nat × Nat)) (w : World) (hS : ∀ k, S k → k < w.heap.size) (hT : ∀ k, T k → k < w.heap.size) (ha : PairsC S w va P) (hb : PairsC T w vb Q) (hal : P.length ≤ 4194304) (hbl : Q.length ≤ 4194304) :
    Calls Tryd.prog 67 #[va, vb] w (FastP w (fastN P Q)) := by
  obtain ⟨i0, hi, hz0, hz1, hz2⟩ := info_parts Tryd.info129p
  have HS := Lib.hid hS
  have HT := Lib.hid hT
  obtain ⟨FF, hFF⟩ : ∃ FF, fastN P Q = FF := ⟨_, rfl⟩
  rw [hFF]
  have HA := Lib.hid ha
  have HB := Lib.hid hb
  have HFF := Lib.hid hFF
  clear hS hT ha hb hFF
  go_enter Tryd.func67, Tryd.ntmps67
  go_wp2_with fail
  go_loopw [0, 1, 5] (fun x y l wr => ∃ (o t : List (Nat × Nat)) (F : List (Nat × Nat × Nat)) , o.length ≤ 4194304 ∧ t.length ≤ 4194304 ∧ F.length + o.length ≤ 4194304 ∧ Hid (PairsC S w x o) ∧ Hid (PairsC T w y t) ∧ Hid (OwnT wr w.heap.size l F) ∧ Hid (F ++ fastN o t = FF) ∧ Hid (Below w.heap.size w wr)) (fun x y _ _ => (match x with | .slice _ n _ => n | _ => 0) + (match y with | .slice _ n _ => n | _ => 0))
  case atStart => exact ⟨P, Q, [], hal, hbl, by simpa using hal, HA, HB, Lib.hid (ownT_nil _ _), Lib.hid HFF.out, Lib.hid (Below.refl _ _)⟩
  case round =>
    obtain ⟨o, t, F, ho, ht, hFo, hX, hY, hO, hE, hW⟩ := hrel
    obtain ⟨xa, xc, rfl⟩ := CellsC.shape hX.out
    obtain ⟨ya, yc, rfl⟩ := CellsC.shape hY.out
    obtain ⟨la, lc, rfl⟩ := ownT_slice hO.out
    have hsz := hW.out.size
    cases o with
    | nil =>
      have HQ : Hid (F = FF) := Lib.hid (by rw [← hE.out, fastN_nil, List.append_nil])
      go_wp2_with fail
      go_ret
      exact ⟨_, rfl, by rw [← HQ.out]; exact hO.out, hW.out⟩
    | cons p os =>
      cases t with
      | nil =>
        have HQ : Hid (F = FF) := Lib.hid (by rw [← hE.out, fastN_none, List.append_nil])
        have hl1 : (p :: os).length = os.length + 1 := rfl
        go_wp2_with fail
        go_ret
        exact ⟨_, rfl, by rw [← HQ.out]; exact hO.out, hW.out⟩
      | cons q ts =>
        obtain ⟨x0, x1⟩ := p
        obtain ⟨y0, y1⟩ := q
        obtain ⟨g1, o1, rfl, hSg, a1, a2, hxs⟩ := pairs_first hX.out
        obtain ⟨g2, o2, rfl, hTg, b1, b2, hys⟩ := pairs_first hY.out
        have h1 := HS.out _ hSg
        have h2 := HT.out _ hTg
        have FA := Lib.hid (fun (W : World) (h : Below w.heap.size w W) => (⟨(h.cell (p := ⟨g1, o1, none⟩) h1).trans a1, (h.cell (p := ⟨g1, o1 + 1, none⟩) h1).trans a2, (h.cell (p := ⟨g2, o2, none⟩) h2).trans b1, (h.cell (p := ⟨g2, o2 + 1, none⟩) h2).trans b2⟩ : W.cell? ⟨g1, o1, none⟩ = some (.int .i64 (x0 : Int)) ∧ W.cell? ⟨g1, o1 + 1, none⟩ = some (.int .i64 (x1 : Int)) ∧ W.cell? ⟨g2, o2, none⟩ = some (.int .i64 (y0 : Int)) ∧ W.cell? ⟨g2, o2 + 1, none⟩ = some (.int .i64 (y1 : Int))))
        obtain ⟨c1, c2, c3, c4⟩ := FA.out wr hW.out
        obtain ⟨d11, d12, d13, d14⟩ := FA.out (wr.alloc (.cells #[.int .i64 0, .int .i64 0] 144)) (hW.out.alloc hsz _)
        obtain ⟨d21, d22, d23, d24⟩ := FA.out (wr.alloc (.cells #[.int .i64 (x0 : Int), .int .i64 (x1 : Int)] 144)) (hW.out.alloc hsz _)
        obtain ⟨d31, d32, d33, d34⟩ := FA.out (wr.alloc (.cells #[.int .i64 (y0 : Int), .int .i64 (y1 : Int)] 144)) (hW.out.alloc hsz _)
        obtain ⟨d41, d42, d43, d44⟩ := FA.out ((wr.alloc (.cells #[.int .i64 0, .int .i64 0] 144)).alloc (.cells #[.int .i64 0, .int .i64 0] 144)) ((hW.out.alloc hsz _).alloc (by simp; omega) _)
        obtain ⟨d51, d52, d53, d54⟩ := FA.out ((wr.alloc (.cells #[.int .i64 (x0 : Int), .int .i64 (x1 : Int)] 144)).alloc (.cells #[.int .i64 0, .int .i64 0] 144)) ((hW.out.alloc hsz _).alloc (by simp; omega) _)
        obtain ⟨d61, d62, d63, d64⟩ := FA.out ((wr.alloc (.cells #[.int .i64 0, .int .i64 0] 144)).alloc (.cells #[.int .i64 (x0 : Int), .int .i64 (x1 : Int)] 144)) ((hW.out.alloc hsz _).alloc (by simp; omega) _)
        obtain ⟨d71, d72, d73, d74⟩ := FA.out ((wr.alloc (.cells #[.int .i64 (y0 : Int), .int .i64 (y1 : Int)] 144)).alloc (.cells #[.int .i64 0, .int .i64 0] 144)) ((hW.out.alloc hsz _).alloc (by simp; omega) _)
        obtain ⟨d81, d82, d83, d84⟩ := FA.out ((wr.alloc (.cells #[.int .i64 0, .int .i64 0] 144)).alloc (.cells #[.int .i64 (y0 : Int), .int .i64 (y1 : Int)] 144)) ((hW.out.alloc hsz _).alloc (by simp; omega) _)
        have hl1 : ((x0, x1) :: os).length = os.length + 1 := rfl
        have hl2 : ((y0, y1) :: ts).length = ts.length + 1 := rfl
        have HXS := Lib.hid hxs
        have HYS := Lib.hid hys
        have HOB : Hid (∀ q, (Value.slice la F.length lc).ownBlock = some q → q < wr.heap.size) := Lib.hid (fun q hq => (World.ownsRow.lt hO.out q hq).2)
        clear a1 a2 b1 b2 hxs hys
        go_upto_region 3 with fail
        go_region
        · have W3 : Hid (Below w.heap.size w (((wr.alloc (.cells #[.int .i64 (x0 : Int), .int .i64 (x1 : Int)] 144)).alloc (.cells #[.int .i64 (y0 : Int), .int .i64 (y1 : Int)] 144)).drewN 1)) := Lib.hid (((hW.out.alloc hsz _).alloc (by simp; omega) _).trans (drewn _ _ 1))
          have O3 : Hid (OwnT (((wr.alloc (.cells #[.int .i64 (x0 : Int), .int .i64 (x1 : Int)] 144)).alloc (.cells #[.int .i64 (y0 : Int), .int .i64 (y1 : Int)] 144)).drewN 1) w.heap.size (.slice la F.length lc) F) := Lib.hid (own_below hO.out (fun k _ hk => (Below.heap_alloc _ _ k (by simp; omega)).trans (Below.heap_alloc _ _ k hk)))
          have m1 : ∀ i, ((((wr.alloc (.cells #[.int .i64 (x0 : Int), .int .i64 (x1 : Int)] 144)).alloc (.cells #[.int .i64 (y0 : Int), .int .i64 (y1 : Int)] 144)).drewN 1)).cell? ⟨wr.heap.size + 1, i, none⟩ = (#[.int .i64 (y0 : Int), .int .i64 (y1 : Int)] : Array Value)[i]? := fun i => by simp
          have m0 : ∀ i, ((((wr.alloc (.cells #[.int .i64 (x0 : Int), .int .i64 (x1 : Int)] 144)).alloc (.cells #[.int .i64 (y0 : Int), .int .i64 (y1 : Int)] 144)).drewN 1)).cell? ⟨wr.heap.size, i, none⟩ = (#[.int .i64 (x0 : Int), .int .i64 (x1 : Int)] : Array Value)[i]? := fun i => (World.cell?_of_block (w := wr.alloc (.cells #[.int .i64 (x0 : Int), .int .i64 (x1 : Int)] 144)) (a := ⟨wr.heap.size, i, none⟩) (Below.heap_alloc _ _ _ (by simp))).trans (World.cell?_alloc_mark _ _ _ _ i)
          have z0 : ((((wr.alloc (.cells #[.int .i64 (x0 : Int), .int .i64 (x1 : Int)] 144)).alloc (.cells #[.int .i64 (y0 : Int), .int .i64 (y1 : Int)] 144)).drewN 1)).cell? ⟨wr.heap.size, 0, none⟩ = some (.int .i64 (x0 : Int)) := m0 0
          have z1 : ((((wr.alloc (.cells #[.int .i64 (x0 : Int), .int .i64 (x1 : Int)] 144)).alloc (.cells #[.int .i64 (y0 : Int), .int .i64 (y1 : Int)] 144)).drewN 1)).cell? ⟨wr.heap.size, 1, none⟩ = some (.int .i64 (x1 : Int)) := m0 1
          have z2 : ((((wr.alloc (.cells #[.int .i64 (x0 : Int), .int .i64 (x1 : Int)] 144)).alloc (.cells #[.int .i64 (y0 : Int), .int .i64 (y1 : Int)] 144)).drewN 1)).cell? ⟨wr.heap.size + 1, 0, none⟩ = some (.int .i64 (y0 : Int)) := m1 0
          have z3 : ((((wr.alloc (.cells #[.int .i64 (x0 : Int), .int .i64 (x1 : Int)] 144)).alloc (.cells #[.int .i64 (y0 : Int), .int .i64 (y1 : Int)] 144)).drewN 1)).cell? ⟨wr.heap.size + 1, 1, none⟩ = some (.int .i64 (y1 : Int)) := m1 1
          clear m0 m1 hO hW FA
          clear d11 d12 d13 d14
          clear d21 d22 d23 d24
          clear d31 d32 d33 d34
          clear d41 d42 d43 d44
          clear d51 d52 d53 d54
          clear d61 d62 d63 d64
          clear d71 d72 d73 d74
          clear d81 d82 d83 d84
          clear c1 c2 c3 c4
          change Exit.then _ _ Exit.normal _ (((wr.alloc (.cells #[.int .i64 (x0 : Int), .int .i64 (x1 : Int)] 144)).alloc (.cells #[.int .i64 (y0 : Int), .int .i64 (y1 : Int)] 144)).drewN 1)
          generalize hWW : (((wr.alloc (.cells #[.int .i64 (x0 : Int), .int .i64 (x1 : Int)] 144)).alloc (.cells #[.int .i64 (y0 : Int), .int .i64 (y1 : Int)] 144)).drewN 1) = wz at *
          have hbz : wr.heap.size < wz.heap.size ∧ wr.heap.size + 1 < wz.heap.size := by rw [← hWW]; simp; omega
          clear hWW
          obtain ⟨b6, hb6⟩ : ∃ b, wr.heap.size = b := ⟨_, rfl⟩
          obtain ⟨b7, hb7⟩ : ∃ b, wr.heap.size + 1 = b := ⟨_, rfl⟩
          rw [hb6] at z0
          rw [hb6] at z1
          rw [hb7] at z2
          rw [hb7] at z3
          rw [hb7, hb6]
          have hb6z : w.heap.size ≤ b6 ∧ b6 < wz.heap.size := by omega
          have hb7z : w.heap.size ≤ b7 ∧ b7 < wz.heap.size := by omega
          have Z : Hid (∀ W : World, W.heap[b6]? = wz.heap[b6]? → W.heap[b7]? = wz.heap[b7]? → W.cell? ⟨b6, 0, none⟩ = some (.int .i64 (x0 : Int)) ∧ W.cell? ⟨b7, 0, none⟩ = some (.int .i64 (y0 : Int))) := Lib.hid (fun W k1 k2 => ⟨(World.cell?_of_block (w := wz) (a := ⟨b6, 0, none⟩) k1).trans z0, (World.cell?_of_block (w := wz) (a := ⟨b7, 0, none⟩) k2).trans z2⟩)
          have hszz := W3.out.size
          have HNB : Hid ((Value.slice la F.length lc).ownBlock ≠ some b6 ∧ (Value.slice la F.length lc).ownBlock ≠ some b7) := Lib.hid ⟨fun e => by have := HOB.out _ e; omega, fun e => by have := HOB.out _ e; omega⟩
          clear hb6 hb7 hbz HOB hSg hTg h1 h2
          rcases Nat.lt_trichotomy x0 y0 with hc | hc | hc
          · have ge : ((x0 : Int) == (y0 : Int)) = false := by rw [beq_eq_false_iff_ne]; omega
            have hle : (x0 : Int) ≤ (y0 : Int) := by omega
            have hnl : ¬ (y0 : Int) ≤ (x0 : Int) := by omega
            have HE2 : Hid (F ++ fastN os ((y0, y1) :: ts) = FF) := Lib.hid (by rw [← hE.out, fastN_lt (o := (x0, x1)) (t := (y0, y1)) hc])
            go_wp2_with fail
            go_roundw
            case rel => exact ⟨os, (y0, y1) :: ts, F, by omega, by omega, by omega, HXS, hY, O3, HE2, W3⟩
            case measure => simp
          · subst hc
            have HE2 : Hid (F ++ [(x0, x1, y1)] ++ fastN os ts = FF) := Lib.hid (by rw [← hE.out, fastN_eq (o := (x0, x1)) (t := (x0, y1)) rfl]; simp)
            go_wp2_with (at_builtin; refine wpList_own_src _ rfl _ _ 130 130 rfl w.heap.size 129 i0 (.agg #[.int .i64 0, .int .i64 0, .int .i64 0]) 3 24 Tryd.underlying130 hi hz0 hz1 hz2 rfl (by decide) _ _ _ rfl (World.ownsRow.alloc O3.out _) _ 1 [.int .i64 (x0 : Int), .int .i64 (x1 : Int), .int .i64 (y1 : Int)] rfl (srcT_one _ _ _ _) (by unfold maxLen; omega) (by omega) (by simp; omega) ?_)
            intro v5 w5 hown5 hg5
            have O5 : Hid (OwnT w5 w.heap.size v5 (F ++ [(x0, x1, y1)])) := Lib.hid (ownT_push hown5)
            have W5 : Hid (Below w.heap.size w w5) := Lib.hid ((W3.out.alloc hszz _).grown hg5.gb (by simp; omega) (fun j hj => (World.ownsRow.lt O3.out j hj).1))
            obtain ⟨t0, t1⟩ := Z.out w5 ((hg5.gb.block b6 (by simp; omega) (fun e => HNB.out.1 e.symm)).trans (Below.heap_alloc _ _ _ hb6z.2)) ((hg5.gb.block b7 (by simp; omega) (fun e => HNB.out.2 e.symm)).trans (Below.heap_alloc _ _ _ hb7z.2))
            clear hown5 hg5 z0 z1 z2 z3
            go_wp2_with fail
            go_roundw
            case rel => exact ⟨os, ts, F ++ [(x0, x1, y1)], by omega, by omega, by simp; omega, HXS, HYS, O5, HE2, W5⟩
            case measure => simp; omega
          · have ge : ((x0 : Int) == (y0 : Int)) = false := by rw [beq_eq_false_iff_ne]; omega
            have hle : ¬ (x0 : Int) ≤ (y0 : Int) := by omega
            have hnl : (y0 : Int) ≤ (x0 : Int) := by omega
            have HE2 : Hid (F ++ fastN ((x0, x1) :: os) ts = FF) := Lib.hid (by rw [← hE.out, fastN_gt (o := (x0, x1)) (t := (y0, y1)) hc])
            go_wp2_with fail
            go_roundw
            case rel => exact ⟨(x0, x1) :: os, ts, F, by omega, by omega, by omega, hX, HYS, O3, HE2, W3⟩
            case measure => simp
        · have W3 : Hid (Below w.heap.size w (((wr.alloc (.cells #[.int .i64 (y0 : Int), .int .i64 (y1 : Int)] 144)).alloc (.cells #[.int .i64 (x0 : Int), .int .i64 (x1 : Int)] 144)).drewN 1)) := Lib.hid (((hW.out.alloc hsz _).alloc (by simp; omega) _).trans (drewn _ _ 1))
          have O3 : Hid (OwnT (((wr.alloc (.cells #[.int .i64 (y0 : Int), .int .i64 (y1 : Int)] 144)).alloc (.cells #[.int .i64 (x0 : Int), .int .i64 (x1 : Int)] 144)).drewN 1) w.heap.size (.slice la F.length lc) F) := Lib.hid (own_below hO.out (fun k _ hk => (Below.heap_alloc _ _ k (by simp; omega)).trans (Below.heap_alloc _ _ k hk)))
          have m1 : ∀ i, ((((wr.alloc (.cells #[.int .i64 (y0 : Int), .int .i64 (y1 : Int)] 144)).alloc (.cells #[.int .i64 (x0 : Int), .int .i64 (x1 : Int)] 144)).drewN 1)).cell? ⟨wr.heap.size + 1, i, none⟩ = (#[.int .i64 (x0 : Int), .int .i64 (x1 : Int)] : Array Value)[i]? := fun i => by simp
          have m0 : ∀ i, ((((wr.alloc (.cells #[.int .i64 (y0 : Int), .int .i64 (y1 : Int)] 144)).alloc (.cells #[.int .i64 (x0 : Int), .int .i64 (x1 : Int)] 144)).drewN 1)).cell? ⟨wr.heap.size, i, none⟩ = (#[.int .i64 (y0 : Int), .int .i64 (y1 : Int)] : Array Value)[i]? := fun i => (World.cell?_of_block (w := wr.alloc (.cells #[.int .i64 (y0 : Int), .int .i64 (y1 : Int)] 144)) (a := ⟨wr.heap.size, i, none⟩) (Below.heap_alloc _ _ _ (by simp))).trans (World.cell?_alloc_mark _ _ _ _ i)
          have z0 : ((((wr.alloc (.cells #[.int .i64 (y0 : Int), .int .i64 (y1 : Int)] 144)).alloc (.cells #[.int .i64 (x0 : Int), .int .i64 (x1 : Int)] 144)).drewN 1)).cell? ⟨wr.heap.size + 1, 0, none⟩ = some (.int .i64 (x0 : Int)) := m1 0
          have z1 : ((((wr.alloc (.cells #[.int .i64 (y0 : Int), .int .i64 (y1 : Int)] 144)).alloc (.cells #[.int .i64 (x0 : Int), .int .i64 (x1 : Int)] 144)).drewN 1)).cell? ⟨wr.heap.size + 1, 1, none⟩ = some (.int .i64 (x1 : Int)) := m1 1
          have z2 : ((((wr.alloc (.cells #[.int .i64 (y0 : Int), .int .i64 (y1 : Int)] 144)).alloc (.cells #[.int .i64 (x0 : Int), .int .i64 (x1 : Int)] 144)).drewN 1)).cell? ⟨wr.heap.size, 0, none⟩ = some (.int .i64 (y0 : Int)) := m0 0
          have z3 : ((((wr.alloc (.cells #[.int .i64 (y0 : Int), .int .i64 (y1 : Int)] 144)).alloc (.cells #[.int .i64 (x0 : Int), .int .i64 (x1 : Int)] 144)).drewN 1)).cell? ⟨wr.heap.size, 1, none⟩ = some (.int .i64 (y1 : Int)) := m0 1
          clear m0 m1 hO hW FA
          clear d11 d12 d13 d14
          clear d21 d22 d23 d24
          clear d31 d32 d33 d34
          clear d41 d42 d43 d44
          clear d51 d52 d53 d54
          clear d61 d62 d63 d64
          clear d71 d72 d73 d74
          clear d81 d82 d83 d84
          clear c1 c2 c3 c4
          change Exit.then _ _ Exit.normal _ (((wr.alloc (.cells #[.int .i64 (y0 : Int), .int .i64 (y1 : Int)] 144)).alloc (.cells #[.int .i64 (x0 : Int), .int .i64 (x1 : Int)] 144)).drewN 1)
          generalize hWW : (((wr.alloc (.cells #[.int .i64 (y0 : Int), .int .i64 (y1 : Int)] 144)).alloc (.cells #[.int .i64 (x0 : Int), .int .i64 (x1 : Int)] 144)).drewN 1) = wz at *
          have hbz : wr.heap.size < wz.heap.size ∧ wr.heap.size + 1 < wz.heap.size := by rw [← hWW]; simp; omega
          clear hWW
          obtain ⟨b6, hb6⟩ : ∃ b, wr.heap.size + 1 = b := ⟨_, rfl⟩
          obtain ⟨b7, hb7⟩ : ∃ b, wr.heap.size = b := ⟨_, rfl⟩
          rw [hb6] at z0
          rw [hb6] at z1
          rw [hb7] at z2
          rw [hb7] at z3
          rw [hb6, hb7]
          have hb6z : w.heap.size ≤ b6 ∧ b6 < wz.heap.size := by omega
          have hb7z : w.heap.size ≤ b7 ∧ b7 < wz.heap.size := by omega
          have Z : Hid (∀ W : World, W.heap[b6]? = wz.heap[b6]? → W.heap[b7]? = wz.heap[b7]? → W.cell? ⟨b6, 0, none⟩ = some (.int .i64 (x0 : Int)) ∧ W.cell? ⟨b7, 0, none⟩ = some (.int .i64 (y0 : Int))) := Lib.hid (fun W k1 k2 => ⟨(World.cell?_of_block (w := wz) (a := ⟨b6, 0, none⟩) k1).trans z0, (World.cell?_of_block (w := wz) (a := ⟨b7, 0, none⟩) k2).trans z2⟩)
          have hszz := W3.out.size
          have HNB : Hid ((Value.slice la F.length lc).ownBlock ≠ some b6 ∧ (Value.slice la F.length lc).ownBlock ≠ some b7) := Lib.hid ⟨fun e => by have := HOB.out _ e; omega, fun e => by have := HOB.out _ e; omega⟩
          clear hb6 hb7 hbz HOB hSg hTg h1 h2
          rcases Nat.lt_trichotomy x0 y0 with hc | hc | hc
          · have ge : ((x0 : Int) == (y0 : Int)) = false := by rw [beq_eq_false_iff_ne]; omega
            have hle : (x0 : Int) ≤ (y0 : Int) := by omega
            have hnl : ¬ (y0 : Int) ≤ (x0 : Int) := by omega
            have HE2 : Hid (F ++ fastN os ((y0, y1) :: ts) = FF) := Lib.hid (by rw [← hE.out, fastN_lt (o := (x0, x1)) (t := (y0, y1)) hc])
            go_wp2_with fail
            go_roundw
            case rel => exact ⟨os, (y0, y1) :: ts, F, by omega, by omega, by omega, HXS, hY, O3, HE2, W3⟩
            case measure => simp
          · subst hc
            have HE2 : Hid (F ++ [(x0, x1, y1)] ++ fastN os ts = FF) := Lib.hid (by rw [← hE.out, fastN_eq (o := (x0, x1)) (t := (x0, y1)) rfl]; simp)
            go_wp2_with (at_builtin; refine wpList_own_src _ rfl _ _ 130 130 rfl w.heap.size 129 i0 (.agg #[.int .i64 0, .int .i64 0, .int .i64 0]) 3 24 Tryd.underlying130 hi hz0 hz1 hz2 rfl (by decide) _ _ _ rfl (World.ownsRow.alloc O3.out _) _ 1 [.int .i64 (x0 : Int), .int .i64 (x1 : Int), .int .i64 (y1 : Int)] rfl (srcT_one _ _ _ _) (by unfold maxLen; omega) (by omega) (by simp; omega) ?_)
            intro v5 w5 hown5 hg5
            have O5 : Hid (OwnT w5 w.heap.size v5 (F ++ [(x0, x1, y1)])) := Lib.hid (ownT_push hown5)
            have W5 : Hid (Below w.heap.size w w5) := Lib.hid ((W3.out.alloc hszz _).grown hg5.gb (by simp; omega) (fun j hj => (World.ownsRow.lt O3.out j hj).1))
            obtain ⟨t0, t1⟩ := Z.out w5 ((hg5.gb.block b6 (by simp; omega) (fun e => HNB.out.1 e.symm)).trans (Below.heap_alloc _ _ _ hb6z.2)) ((hg5.gb.block b7 (by simp; omega) (fun e => HNB.out.2 e.symm)).trans (Below.heap_alloc _ _ _ hb7z.2))
            clear hown5 hg5 z0 z1 z2 z3
            go_wp2_with fail
            go_roundw
            case rel => exact ⟨os, ts, F ++ [(x0, x1, y1)], by omega, by omega, by simp; omega, HXS, HYS, O5, HE2, W5⟩
            case measure => simp; omega
          · have ge : ((x0 : Int) == (y0 : Int)) = false := by rw [beq_eq_false_iff_ne]; omega
            have hle : ¬ (x0 : Int) ≤ (y0 : Int) := by omega
            have hnl : (y0 : Int) ≤ (x0 : Int) := by omega
            have HE2 : Hid (F ++ fastN ((x0, x1) :: os) ts = FF) := Lib.hid (by rw [← hE.out, fastN_gt (o := (x0, x1)) (t := (y0, y1)) hc])
            go_wp2_with fail
            go_roundw
            case rel => exact ⟨(x0, x1) :: os, ts, F, by omega, by omega, by omega, hX, HYS, O3, HE2, W3⟩
            case measure => simp
end Go.Proofs.YtjlpdoppnhcjoaaDoor
