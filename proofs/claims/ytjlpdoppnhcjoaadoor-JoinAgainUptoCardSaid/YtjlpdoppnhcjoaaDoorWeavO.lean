/- The walk of put. -/
import Derived.Test.YtjlpdoppnhcjoaaDoorWeavN
import Derived.Test.YtjlpdoppnhcjoaaDoorStep
namespace Go.Proofs.YtjlpdoppnhcjoaaDoor
open Go.RowKit
attribute [local go_sem ↓] Go.wp_at_zero Go.wp_at_succ

theorem Tryd.info134p : (Tryd.prog.info? 134).map (fun i => (i.zero, i.size, i.bytes)) = some (some (.agg #[.int .i64 0, .slice none 0 0, .slice none 0 0, .slice none 0 0]), 4, 80) := by kernel_rfl
theorem srcW_one (w : World) (x : Int) (a1 a2 a3 : Option Addr) (n1 c1 n2 c2 n3 c3 : Nat) : Src Tryd.prog 4 110 (.slice (some ⟨w.heap.size, 0, none⟩) 1 1) 1 [.int .i64 x, .slice a1 n1 c1, .slice a2 n2 c2, .slice a3 n3 c3] (w.alloc (.cells #[.int .i64 x, .slice a1 n1 c1, .slice a2 n2 c2, .slice a3 n3 c3] 134)) :=
  Src.ofSlice _ Tryd.underlying110 _ 1 1 _ rfl (fun j u hj => by
    rw [add_pos, Nat.zero_add, World.cell?_alloc_mark]; simpa using hj) (fun u hu => by
    simp at hu; rcases hu with rfl | rfl | rfl | rfl <;> rfl)
/-- What put leaves. -/
def PutP (F G : Nat → Prop) (w : World) (B : Nat) (ps : List (PartN (List UInt8))) (e : Ending) (w' : World) : Prop :=
  ∃ v' F', e = .returned v' ∧ PartsO F' w' B v' ps ∧ (∀ k, F' k → F k ∨ G k ∨ (w.heap.size ≤ k ∧ k < w'.heap.size)) ∧ Spares F w w'
/-- Which of three lists is the first that isn't empty. -/
theorem three_ways {a b c : Nat} (h : ¬ (a = 0 ∧ b = 0 ∧ c = 0)) : ((a : Int) == 0) = false ∨ (((a : Int) == 0) = true ∧ ((b : Int) == 0) = false) ∨ (((a : Int) == 0) = true ∧ ((b : Int) == 0) = true ∧ ((c : Int) == 0) = false) := by
  simp only [beq_iff_eq, beq_eq_false_iff_ne]
  omega
set_option maxRecDepth 100000 in
set_option maxHeartbeats 4000000 in
theorem put_none (F G : Nat → Prop) (B : Nat) (v u1 u2 u3 : Value) (ps : List (PartN (List UInt8))) (p : PartN (List UInt8)) (w : World) (hp : PartsO F w B v ps) (hu : PartO G w B u1 u2 u3 p.base p.ours p.theirs) (hn : p.base = [] ∧ p.ours = [] ∧ p.theirs = []) :
    Calls Tryd.prog 68 #[v, .agg #[.int .i64 p.kind, u1, u2, u3]] w (PutP F G w B ps) := by
  obtain ⟨va, vc, rfl⟩ := hp.shape
  obtain ⟨a1, c1, rfl⟩ := ownS_slice hu.o1
  obtain ⟨a2, c2, rfl⟩ := ownS_slice hu.o2
  obtain ⟨a3, c3, rfl⟩ := ownS_slice hu.o3
  rw [hn.1, hn.2.1, hn.2.2]
  have HP := Lib.hid hp
  have HS : Hid (∀ o, Spares F w (w.alloc o)) := Lib.hid (fun o => Spares.of_alloc F w o)
  have HK : Hid (∀ o, PartsO F (w.alloc o) B (.slice va ps.length vc) ps) := Lib.hid (fun o => hp.kept (HS.out o).size (fun k hk => Below.heap_alloc w o k (hp.1 k hk).2))
  clear hp hu hn
  go_enter Tryd.func68, Tryd.ntmps68
  go_wp2_with fail
  go_ret
  exact ⟨_, F, rfl, HK.out _, fun k hk => Or.inl hk, HS.out _⟩
set_option maxRecDepth 100000 in
set_option maxHeartbeats 8000000 in
theorem put_push (F G : Nat → Prop) (B : Nat) (v u1 u2 u3 : Value) (ps : List (PartN (List UInt8))) (p : PartN (List UInt8)) (w : World) (hp : PartsO F w B v ps) (hu : PartO G w B u1 u2 u3 p.base p.ours p.theirs) (hFG : ∀ k, F k → ¬ G k) (hG : ∀ k, G k → B ≤ k ∧ k < w.heap.size) (hB : B ≤ w.heap.size)
    (hpl : ps.length ≤ 4194304) (hn : ¬ (p.base = [] ∧ p.ours = [] ∧ p.theirs = [])) (hq : ∀ q, ps = ps.dropLast ++ [q] → ¬ (q.kind = 0 ∧ p.kind = 0)) :
    Calls Tryd.prog 68 #[v, .agg #[.int .i64 p.kind, u1, u2, u3]] w (PutP F G w B (ps ++ [p])) := by
  obtain ⟨i0, hi, hz0, hz1, hz2⟩ := info_parts Tryd.info134p
  obtain ⟨va, vc, rfl⟩ := hp.shape
  obtain ⟨a1, c1, rfl⟩ := ownS_slice hu.o1
  obtain ⟨a2, c2, rfl⟩ := ownS_slice hu.o2
  obtain ⟨a3, c3, rfl⟩ := ownS_slice hu.o3
  have g3w := three_ways (a := p.base.length) (b := p.ours.length) (c := p.theirs.length) (fun ⟨x1, x2, x3⟩ => hn ⟨List.length_eq_zero_iff.1 x1, List.length_eq_zero_iff.1 x2, List.length_eq_zero_iff.1 x3⟩)
  have hlast : ((ps.length : Int) == 0) = true ∨ ∃ g m : Nat, va = some ⟨g, 0, none⟩ ∧ ps.length ≤ vc ∧ vc ≤ 9223372036854775807 ∧ ((ps.length : Int) == 0) = false ∧ (ps.length : Int) - 1 = (m : Int) ∧ m < ps.length ∧ F g ∧ ∃ kq : Int, w.cell? ⟨g, m * 4, none⟩ = some (.int .i64 kq) ∧ ((kq != 0) = true ∨ ((kq != 0) = false ∧ (p.kind != 0) = true)) := by
    rcases hp.2 with ⟨h0, _⟩ | ⟨S, css, ini, q, v1, v2, v3, e, hl⟩
    · left; rw [h0]; rfl
    · right
      obtain ⟨g, c, e2, hFg, hc1, hc2⟩ := hl.block
      injection e2 with e2 e3 e4
      subst e2 e4
      have hln : ps.length = ini.length + 1 := by rw [e]; simp
      refine ⟨g, ini.length, rfl, by omega, hc2, by rw [beq_eq_false_iff_ne]; omega, by omega, by omega, hFg, q.kind, (hl.cells rfl).1, ?_⟩
      have := hq q (by rw [e]; simp)
      by_cases hk : q.kind = 0
      · right; exact ⟨by simp [hk], by simp; exact fun h => this ⟨hk, h⟩⟩
      · left; simp [hk]
  have HP := Lib.hid (fun (W : World) (hs : Spares (fun _ => False) w W) => hp.kept hs.size (fun k hk => hs.block k (hp.1 k hk).2 id))
  have HU := Lib.hid (fun (W : World) (hs : Spares (fun _ => False) w W) => hu.kept (w' := W) (fun k hk => hs.block k (hG k hk).2 id))
  have HG := Lib.hid hG
  have HFG := Lib.hid hFG
  have HF := Lib.hid hp.1
  obtain ⟨n, hnn⟩ : ∃ n, ps.length = n := ⟨_, rfl⟩
  have HNN := Lib.hid hnn
  obtain ⟨kd, l1, l2, l3⟩ := p
  have HCC : Hid (∀ W : World, Spares (fun _ => False) w W → ∀ g k, F g → W.cell? ⟨g, k, none⟩ = w.cell? ⟨g, k, none⟩) := Lib.hid (fun W hs g k hg => World.cell?_of_block (w := w) (a := ⟨g, k, none⟩) (hs.block g (hp.1 g hg).2 id))
  simp only at g3w hlast
  obtain ⟨n1, hn1⟩ : ∃ n, l1.length = n := ⟨_, rfl⟩
  obtain ⟨n2, hn2⟩ : ∃ n, l2.length = n := ⟨_, rfl⟩
  obtain ⟨n3, hn3⟩ : ∃ n, l3.length = n := ⟨_, rfl⟩
  simp only at HU ⊢
  rw [hn1, hn2, hn3] at g3w HU ⊢
  rw [hnn] at hlast HP hpl ⊢
  have SP1 : Hid (Spares (fun _ => False) w (w.alloc (.cells #[.int .i64 kd, .slice a1 n1 c1, .slice a2 n2 c2, .slice a3 n3 c3] 134))) := Lib.hid (Spares.of_alloc _ _ _)
  have SP2 : Hid (Spares (fun _ => False) w ((w.alloc (.cells #[.int .i64 kd, .slice a1 n1 c1, .slice a2 n2 c2, .slice a3 n3 c3] 134)).alloc (.cells #[.int .i64 kd, .slice a1 n1 c1, .slice a2 n2 c2, .slice a3 n3 c3] 134))) := Lib.hid (SP1.out.trans (Spares.of_alloc _ _ _) (fun _ _ e => e))
  obtain ⟨cells, hrow, hvF, hpush⟩ := (HP.out _ SP2.out).push
  rw [hnn] at hrow hpush
  have HROW := Lib.hid hrow
  have HPUSH := Lib.hid hpush
  have HVF := Lib.hid hvF
  have HBX := Lib.hid (new_five w #[.int .i64 kd, .slice a1 n1 c1, .slice a2 n2 c2, .slice a3 n3 c3] 134)
  have src := srcW_one (w.alloc (.cells #[.int .i64 kd, .slice a1 n1 c1, .slice a2 n2 c2, .slice a3 n3 c3] 134)) kd a1 a2 a3 n1 c1 n2 c2 n3 c3
  rw [show (w.alloc (.cells #[.int .i64 kd, .slice a1 n1 c1, .slice a2 n2 c2, .slice a3 n3 c3] 134)).heap.size = w.heap.size + 1 from by simp] at src
  have SRC := Lib.hid src
  clear src
  have hBw : B ≤ ((w.alloc (.cells #[.int .i64 kd, .slice a1 n1 c1, .slice a2 n2 c2, .slice a3 n3 c3] 134)).alloc (.cells #[.int .i64 kd, .slice a1 n1 c1, .slice a2 n2 c2, .slice a3 n3 c3] 134)).heap.size := by simp; omega
  clear hp hu hG hFG hq hn hnn hn1 hn2 hn3 hrow hpush hvF
  rcases g3w with x1 | ⟨x1, x2⟩ | ⟨x1, x2, x3⟩ <;> rcases hlast with y0 | ⟨g, m, rfl, hnc, hcm, y0, y1, y2, y3, kq, y4, y5 | ⟨y5, y6⟩⟩
  all_goals
    go_enter Tryd.func68, Tryd.ntmps68
    try (have y7 := (HCC.out _ SP1.out g (m * 4) y3).trans y4)
    go_upto_region 4 with fail
    go_wp2_with (at_builtin; refine wpList_own_src _ rfl _ _ 110 110 rfl B 134 i0 (.agg #[.int .i64 0, .slice none 0 0, .slice none 0 0, .slice none 0 0]) 4 80 Tryd.underlying110 hi hz0 hz1 hz2 rfl (by decide) _ _ _ rfl HROW.out _ 1 [.int .i64 kd, .slice a1 n1 c1, .slice a2 n2 c2, .slice a3 n3 c3] rfl SRC.out (by unfold maxLen; omega) (by omega) hBw ?_)
    intro v5 w5 hown5 hg5
    have HE := Lib.hid (HPUSH.out w5 v5 G _ _ _ ⟨kd, l1, l2, l3⟩ (HU.out _ SP2.out) HFG.out (fun k hk => ⟨(HG.out k hk).1, Nat.lt_of_lt_of_le (HG.out k hk).2 SP2.out.size⟩) hg5 hown5 hBw)
    have SP5 : Hid (Spares F w w5) := Lib.hid ((SP2.out.mono (fun _ e => e.elim)).trans (Spares.of_grew hg5 HVF.out) (fun _ _ e => e))
    have hz := SP2.out.size
    clear hown5 hg5
    go_wp2_with fail
    go_ret
    exact ⟨_, _, rfl, HE.out, fun k hk => by rcases hk with hk | hk | hk; exact Or.inl hk; exact Or.inr (Or.inl hk); exact Or.inr (Or.inr ⟨by omega, hk.2⟩), SP5.out⟩
set_option maxRecDepth 100000 in
set_option maxHeartbeats 8000000 in
theorem put_join (F G : Nat → Prop) (B : Nat) (v u1 u2 u3 : Value) (ini : List (PartN (List UInt8))) (q p : PartN (List UInt8)) (w : World) (hp : PartsO F w B v (ini ++ [q])) (hu : PartO G w B u1 u2 u3 p.base p.ours p.theirs) (hFG : ∀ k, F k → ¬ G k) (hG : ∀ k, G k → B ≤ k ∧ k < w.heap.size) (hB : B ≤ w.heap.size)
    (hil : ini.length ≤ 4194304) (hl1 : p.base.length ≤ 4194304) (hl2 : p.ours.length ≤ 4194304) (hl3 : p.theirs.length ≤ 4194304) (hm1 : q.base.length ≤ 4194304) (hm2 : q.ours.length ≤ 4194304) (hm3 : q.theirs.length ≤ 4194304) (hn : ¬ (p.base = [] ∧ p.ours = [] ∧ p.theirs = [])) (hq0 : q.kind = 0) (hp0 : p.kind = 0) :
    Calls Tryd.prog 68 #[v, .agg #[.int .i64 p.kind, u1, u2, u3]] w (PutP F G w B (ini ++ [⟨q.kind, q.base ++ p.base, q.ours ++ p.ours, q.theirs ++ p.theirs⟩])) := by
  obtain ⟨i0, hi, hz0, hz1, hz2⟩ := info_parts Tryd.info9s
  obtain ⟨S, css, v1, v2, v3, hl⟩ : ∃ S css v1 v2 v3, LastO F S w B v css ini q.kind v1 v2 v3 q.base q.ours q.theirs := by
    rcases hp.2 with ⟨h0, _⟩ | ⟨S, css, ini', q', v1, v2, v3, e, hl⟩
    · simp at h0
    · obtain ⟨rfl, e2⟩ := List.append_inj' e rfl
      injection e2 with e2
      subst e2
      exact ⟨S, css, v1, v2, v3, hl⟩
  obtain ⟨g, vc, rfl, hFg, hnc, hcm⟩ := hl.block
  obtain ⟨a1, c1, rfl⟩ := ownS_slice hu.o1
  obtain ⟨a2, c2, rfl⟩ := ownS_slice hu.o2
  obtain ⟨a3, c3, rfl⟩ := ownS_slice hu.o3
  obtain ⟨b1, d1, rfl⟩ := ownS_slice hl.part.o1
  obtain ⟨b2, d2, rfl⟩ := ownS_slice hl.part.o2
  obtain ⟨b3, d3, rfl⟩ := ownS_slice hl.part.o3
  have g3w := three_ways (a := p.base.length) (b := p.ours.length) (c := p.theirs.length) (fun ⟨x1, x2, x3⟩ => hn ⟨List.length_eq_zero_iff.1 x1, List.length_eq_zero_iff.1 x2, List.length_eq_zero_iff.1 x3⟩)
  obtain ⟨kd, l1, l2, l3⟩ := p
  obtain ⟨kq, m1, m2, m3⟩ := q
  simp only at hu hl hl1 hl2 hl3 hm1 hm2 hm3 hq0 hp0 g3w ⊢
  subst hq0 hp0
  have hFz := fun k hk => (hl.lt k hk).2
  have HU := Lib.hid (fun (W : World) (hs : Spares F w W) => hu.kept (w' := W) (fun k hk => hs.block k (hG k hk).2 (fun e => hFG k e hk)))
  have HFG := Lib.hid hFG
  have HG := Lib.hid hG
  have HFz := Lib.hid hFz
  have HL := Lib.hid (fun (W : World) (hs : Spares (fun _ => False) w W) => hl.kept hs.size (fun k hk => hs.block k (hFz k hk) id))
  have HC := (hl.cells (g := g) rfl).1
  have HB := Lib.hid hB
  obtain ⟨n1, hn1⟩ : ∃ n, l1.length = n := ⟨_, rfl⟩
  obtain ⟨n2, hn2⟩ : ∃ n, l2.length = n := ⟨_, rfl⟩
  obtain ⟨n3, hn3⟩ : ∃ n, l3.length = n := ⟨_, rfl⟩
  have HN1 := Lib.hid hn1
  have HN2 := Lib.hid hn2
  have HN3 := Lib.hid hn3
  rw [hn1, hn2, hn3] at g3w HU ⊢
  rw [hn1] at hl1
  rw [hn2] at hl2
  rw [hn3] at hl3
  obtain ⟨m, hm⟩ : ∃ m, ini.length = m := ⟨_, rfl⟩
  have HM := Lib.hid hm
  rw [hm] at HC HL hnc hil ⊢
  obtain ⟨n, hnn⟩ : ∃ n, m + 1 = n := ⟨_, rfl⟩
  have HNN := Lib.hid hnn
  have y0 : ((n : Int) == 0) = false := by rw [beq_eq_false_iff_ne]; omega
  have y1 : (n : Int) - 1 = (m : Int) := by omega
  have y2 : m < n := by omega
  rw [hnn] at HL hnc ⊢
  have SP1 : Hid (Spares (fun _ => False) w (w.alloc (.cells #[.int .i64 0, .slice a1 n1 c1, .slice a2 n2 c2, .slice a3 n3 c3] 134))) := Lib.hid (Spares.of_alloc _ _ _)
  have y4 := (World.cell?_of_block (w := w) (a := ⟨g, m * 4, none⟩) (SP1.out.block g (hFz g hFg) id)).trans HC
  have HBX := Lib.hid (new_five w #[.int .i64 0, .slice a1 n1 c1, .slice a2 n2 c2, .slice a3 n3 c3] 134)
  have hpw : w.heap.size < (w.alloc (.cells #[.int .i64 0, .slice a1 n1 c1, .slice a2 n2 c2, .slice a3 n3 c3] 134)).heap.size := by simp
  clear hp hu hG hFG hn hn1 hn2 hn3 hm hnn hl HC hB hFz
  rcases g3w with x1 | ⟨x1, x2⟩ | ⟨x1, x2, x3⟩
  all_goals
    go_enter Tryd.func68, Tryd.ntmps68
    go_upto_region 6 with fail
    clear y4
    try clear x1
    try clear x2
    try clear x3
    have LA0 := Lib.hid (HL.out _ SP1.out)
    have HSP : Hid (∀ W, Spares F (w.alloc (.cells #[.int .i64 0, .slice a1 n1 c1, .slice a2 n2 c2, .slice a3 n3 c3] 134)) W → Spares F w W) := Lib.hid (fun W h => (SP1.out.mono (fun _ e => e.elim)).trans h (fun _ _ e => e))
    have HBX4 : Hid (∀ W : World, W.heap[w.heap.size]? = (w.alloc (.cells #[.int .i64 0, .slice a1 n1 c1, .slice a2 n2 c2, .slice a3 n3 c3] 134)).heap[w.heap.size]? → W.cell? ⟨w.heap.size, 1, none⟩ = some (.slice a1 n1 c1) ∧ W.cell? ⟨w.heap.size, 2, none⟩ = some (.slice a2 n2 c2) ∧ W.cell? ⟨w.heap.size, 3, none⟩ = some (.slice a3 n3 c3)) := Lib.hid (fun W hW => (box4 HBX.out hW).2)
    have HPB : Hid (∀ k, F k → k ≠ w.heap.size) := Lib.hid (fun k hk => by have := HFz.out k hk; omega)
    have hsw : w.heap.size ≤ (w.alloc (.cells #[.int .i64 0, .slice a1 n1 c1, .slice a2 n2 c2, .slice a3 n3 c3] 134)).heap.size := by omega
    generalize w.alloc (.cells #[.int .i64 0, .slice a1 n1 c1, .slice a2 n2 c2, .slice a3 n3 c3] 134) = wp at *
    obtain ⟨pb, hpb⟩ : ∃ pb, w.heap.size = pb := ⟨_, rfl⟩
    rw [hpb] at HBX4 HPB hpw ⊢
    have SA0 : Hid (Spares F wp wp) := Lib.hid (Spares.refl _ _)
    have PA0 : Hid (wp.heap[pb]? = wp.heap[pb]?) := Lib.hid rfl
    have FA0 : Hid (∀ k, F k → F k ∨ (wp.heap.size ≤ k ∧ k < wp.heap.size)) := Lib.hid (fun _ h => Or.inl h)
    obtain ⟨F0, hF0⟩ : ∃ F0, F0 = F := ⟨_, rfl⟩
    have LA : Hid (LastO F0 S wp B (.slice (some ⟨g, 0, none⟩) n vc) css ini 0 (.slice b1 m1.length d1) (.slice b2 m2.length d2) (.slice b3 m3.length d3) m1 m2 m3) := by rw [hF0]; exact LA0
    have FA : Hid (∀ k, F0 k → F k ∨ (wp.heap.size ≤ k ∧ k < wp.heap.size)) := by rw [hF0]; exact FA0
    obtain ⟨wa, hwa⟩ : ∃ W, W = wp := ⟨_, rfl⟩
    have PA : Hid (wa.heap[pb]? = wp.heap[pb]?) := by rw [hwa]; exact PA0
    have SA : Hid (Spares F wp wa) := by rw [hwa]; exact SA0
    rw [← hwa] at LA FA ⊢
    rw [hwa] at FA
    have FA : Hid (∀ k, F0 k → F k ∨ (wp.heap.size ≤ k ∧ k < wa.heap.size)) := by rw [hwa]; exact FA
    clear hwa hF0 LA0 SA0 PA0 FA0 HL SP1 hpb HBX
    have HF : Hid (∀ W : World, W.heap[pb]? = wp.heap[pb]? → W.cell? ⟨pb, 1, none⟩ = some (.slice a1 n1 c1)) := Lib.hid (fun W hW => (HBX4.out W hW).1)
    go_upto_region 6 with fail
    refine wp_region_held_drew (S := (fun W => W.cell? ⟨pb, 1, none⟩ = some (.slice a1 n1 c1))) (by kernel_rfl) (by exact HF.out _ PA.out) (fun hHeld => ?_)
    have PD : Hid (wa.drew.heap[pb]? = wp.heap[pb]?) := Lib.hid PA.out
    have LD := Lib.hid (LA.out.kept (w' := wa.drew) (Nat.le_refl _) (fun _ _ => rfl))
    have SD : Hid (Spares F wp wa.drew) := Lib.hid (SA.out.trans (Spares.of_drewn F wa 1) (fun _ _ e => e))
    have FD : Hid (∀ k, F0 k → F k ∨ (wp.heap.size ≤ k ∧ k < wa.drew.heap.size)) := Lib.hid FA.out
    clear PA LA SA FA
    generalize wa.drew = wd at *
    refine wpAnyH_take (i := 0) (oi := ⟨_, _, _, _, _, _⟩) (v := ?_) rfl (by kernel_rfl) (by kernel_rfl) (by kernel_rfl) (fun _ _ _ h => h) (Or.inl ⟨by rfl, ?_⟩) (by assumption) ?_
    rotate_left
    · intro w hSw; (try dsimp only at hSw); first | (go_simp; done) | (go_simp; with_reducible rfl)
    try simp only [Act.put, List.setIfInBounds_toArray, List.set_cons_zero, List.set_cons_succ]
    refine wpAnyH_take (i := 1) (oi := ⟨_, _, _, _, _, _⟩) (v := ?_) rfl (by kernel_rfl) (by kernel_rfl) (by kernel_rfl) (fun _ _ _ h => h) (Or.inl ⟨by rfl, ?_⟩) (by assumption) ?_
    rotate_left
    · intro w hSw; (try dsimp only at hSw); first | (go_simp; done) | (go_simp; with_reducible rfl)
    try simp only [Act.put, List.setIfInBounds_toArray, List.set_cons_zero, List.set_cons_succ]
    refine wpAnyH_take (i := 2) (oi := ⟨_, _, _, _, _, _⟩) (v := ?_) rfl (by kernel_rfl) (by kernel_rfl) (by kernel_rfl) (fun _ _ _ h => h) (Or.inl ⟨by rfl, ?_⟩) (by assumption) ?_
    rotate_left
    · intro w hSw; (try dsimp only at hSw); first | (go_simp; done) | (go_simp; with_reducible rfl)
    try simp only [Act.put, List.setIfInBounds_toArray, List.set_cons_zero, List.set_cons_succ]
    refine wpAnyH_take (i := 3) (oi := ⟨_, _, _, _, _, _⟩) (v := ?_) rfl (by kernel_rfl) (by kernel_rfl) (by kernel_rfl) (fun _ _ _ h => h) (Or.inl ⟨by rfl, ?_⟩) (by assumption) ?_
    rotate_left
    · intro w hSw; (try dsimp only at hSw); first | (go_simp; done) | (go_simp; with_reducible rfl)
    try simp only [Act.put, List.setIfInBounds_toArray, List.set_cons_zero, List.set_cons_succ]
    refine wpAnyH_take (i := 5) (oi := ⟨_, _, _, _, _, _⟩) (v := ?_) rfl (by kernel_rfl) (by kernel_rfl) (by kernel_rfl) (fun _ _ _ h => h) (Or.inl ⟨by rfl, ?_⟩) (by assumption) ?_
    rotate_left
    · intro w hSw; (try dsimp only at hSw); first | (go_simp; done) | (go_simp; with_reducible rfl)
    try simp only [Act.put, List.setIfInBounds_toArray, List.set_cons_zero, List.set_cons_succ]
    refine wpAnyH_take (i := 6) (oi := ⟨_, _, _, _, _, _⟩) (v := ?_) rfl (by kernel_rfl) (by kernel_rfl) (by kernel_rfl) (fun _ _ _ h => h) (Or.inl ⟨by rfl, ?_⟩) (by assumption) ?_
    rotate_left
    · intro w hSw; (try dsimp only at hSw); first | (go_simp; done) | (go_simp; with_reducible rfl)
    try simp only [Act.put, List.setIfInBounds_toArray, List.set_cons_zero, List.set_cons_succ]
    refine wpAnyH_ready (rs := [4]) (by kernel_rfl) (by simp) ?_
    refine AllReadyH.cons (o := ⟨_, _, _, _, _, _⟩) rfl (fun K hK => ?_) AllReadyH.nil
    obtain ⟨_, e1, e2, e3⟩ := LD.out.cells (g := g) rfl
    rw [HM.out] at e1 e2 e3
    go_simp
    clear e1 e2 e3
    refine hK.out _ _ (by exact HF.out _ (Hid.out (by assumption))) (fun hHeld => ?_)
    clear hK K
    try simp only [Act.put, List.setIfInBounds_toArray, List.set_cons_zero, List.set_cons_succ]
    refine wpAnyH_ready (rs := [7]) (by kernel_rfl) (by simp) ?_
    refine AllReadyH.cons (o := ⟨_, _, _, _, _, _⟩) rfl (fun K hK => ?_) AllReadyH.nil
    have SRC : Hid (Src Tryd.prog 1 85 (.slice a1 n1 c1) n1 (sv l1) wd) := Lib.hid (by have h := ((ownS_strs (HU.out _ (HSP.out _ SD.out)).o1).kept (S' := fun _ => True) (w' := wd) (fun _ _ => ⟨trivial, rfl⟩)).src; rw [HN1.out] at h; exact h)
    refine step_own_src _ rfl _ _ 85 85 (by rfl) B 9 i0 (.string ByteArray.empty) 1 16 Tryd.underlying85 hi hz0 hz1 hz2 rfl (by decide) _ _ _ (by rfl) LD.out.part.o1 _ _ _ (by rfl) SRC.out (by unfold maxLen; omega) (by omega) (Nat.le_trans HB.out (Nat.le_trans hsw SD.out.size)) ?_
    intro v8 w8 hown8 hg8
    obtain ⟨X, hX⟩ : ∃ X, m1 ++ l1 = X := ⟨_, rfl⟩
    have HX := Lib.hid hX
    have O8 : OwnS w8 B v8 X := by rw [← hX]; exact ownS_more (by rw [HN1.out]) hown8
    have npb : ∀ k, F0 k → k ≠ pb := fun k hk e => by rcases FD.out k hk with h | h; exact HPB.out k h e; omega
    have P8 : Hid (w8.heap[pb]? = wp.heap[pb]?) := Lib.hid ((hg8.gb.block pb (by have := SD.out.size; omega) (fun e => npb pb (LD.out.part.g1 pb e.symm) rfl)).trans PD.out)
    have G8 := Lib.hid hg8
    obtain ⟨a8, c8, rfl⟩ := ownS_slice O8
    obtain ⟨_, e1, e2, e3⟩ := LD.out.cells (g := g) rfl
    rw [HM.out] at e1 e2 e3
    have bg : w8.heap[g]? = wd.heap[g]? := hg8.gb.block g (LD.out.lt g (LD.out.vF g rfl)).2 (fun e => LD.out.e1 g e.symm rfl)
    have f8 := (World.cell?_of_block (w := wd) (a := ⟨g, m * 4 + 1, none⟩) bg).trans e1
    have z8 := (World.frozen?_of_block (w := wd) (a := ⟨g, m * 4 + 1, none⟩) bg).trans (LD.out.frozen rfl _)
    have HO8 := Lib.hid O8
    have NPB := Lib.hid npb
    clear hown8 hg8 SRC hX O8 e1 e2 e3 bg npb
    refine hK.out _ _ (by exact HF.out _ (Hid.out (by assumption))) (fun hHeld => ?_)
    clear hK K
    try simp only [Act.put, List.setIfInBounds_toArray, List.set_cons_zero, List.set_cons_succ]
    refine wpAnyH_take (i := 8) (oi := ⟨_, _, _, _, _, _⟩) (v := ?_) rfl (by kernel_rfl) (by kernel_rfl) (by kernel_rfl) (fun _ _ _ h => h) (Or.inl ⟨by rfl, ?_⟩) (by assumption) ?_
    rotate_left
    · intro w hSw; (try dsimp only at hSw); first | (go_simp; done) | (go_simp; with_reducible rfl)
    try simp only [Act.put, List.setIfInBounds_toArray, List.set_cons_zero, List.set_cons_succ]
    refine wpAnyH_take (i := 9) (oi := ⟨_, _, _, _, _, _⟩) (v := ?_) rfl (by kernel_rfl) (by kernel_rfl) (by kernel_rfl) (fun _ _ _ h => h) (Or.inl ⟨by rfl, ?_⟩) (by assumption) ?_
    rotate_left
    · intro w hSw; (try dsimp only at hSw); first | (go_simp; done) | (go_simp; with_reducible rfl)
    try simp only [Act.put, List.setIfInBounds_toArray, List.set_cons_zero, List.set_cons_succ]
    refine wpAnyH_ready (rs := [10]) (by kernel_rfl) (by simp) ?_
    refine AllReadyH.cons (o := ⟨_, _, _, _, _, _⟩) rfl (fun K hK => ?_) AllReadyH.nil
    go_simp
    refine any_step (fun w9 hN => ?_)
    have L9 : Hid (LastO (fun k => F0 k ∨ (wd.heap.size ≤ k ∧ k < w8.heap.size)) S w9 B (.slice (some ⟨g, 0, none⟩) n vc) css ini 0 (.slice a8 X.length c8) (.slice b2 m2.length d2) (.slice b3 m3.length d3) (m1 ++ l1) m2 m3) := Lib.hid (by have h := LD.out.app1 (g := g) (u := .slice a8 X.length c8) (r := l1) rfl (by rw [HX.out]; exact HO8.out) G8.out; rw [HM.out, ← hN] at h; exact h)
    have S9 : Hid (Spares F wp w9) := Lib.hid (by rw [hN]; exact (SD.out.trans ((Spares.of_grew (F := F0) G8.out LD.out.part.g1).trans (Spares.of_set F0 w8 g (m * 4 + 1) _ (LD.out.vF g rfl)) (fun _ _ e => e)) (fun j hj e => (FD.out j e).elim id (fun e2 => absurd hj (Nat.not_lt.2 e2.1)))))
    have hw9 : w9.heap.size = w8.heap.size := by rw [hN]; simp
    have h8 := G8.out.size
    have hsd := SD.out.size
    have F9 : Hid (∀ k, (F0 k ∨ (wd.heap.size ≤ k ∧ k < w8.heap.size)) → F k ∨ (wp.heap.size ≤ k ∧ k < w9.heap.size)) := Lib.hid (fun k hk => by rcases hk with h | h; (rcases FD.out k h with h2 | h2; exact Or.inl h2; exact Or.inr (by omega)); exact Or.inr (by omega))
    have P9 : Hid (w9.heap[pb]? = wp.heap[pb]?) := Lib.hid (by rw [hN]; exact (Below.heap_setCell _ _ _ _ (fun e => NPB.out g (LD.out.vF g rfl) (by simpa using e.symm))).trans P8.out)
    clear hN hw9 h8 hsd P8 G8 f8 z8 HO8 HX NPB PD LD SD FD
    obtain ⟨F1, hF1⟩ : ∃ F1 : Nat → Prop, (fun k => F0 k ∨ (wd.heap.size ≤ k ∧ k < w8.heap.size)) = F1 := ⟨_, rfl⟩
    have F9b : Hid (∀ k, F1 k → F k ∨ (wp.heap.size ≤ k ∧ k < w9.heap.size)) := Lib.hid (by rw [← hF1]; exact F9.out)
    rw [hF1] at L9
    clear F9 hF1
    try go_wp2_with fail
    refine hK.out _ _ (by exact HF.out _ (Hid.out (by assumption))) (fun hHeld => ?_)
    clear hK K
    try simp only [Act.put, List.setIfInBounds_toArray, List.set_cons_zero, List.set_cons_succ]
    refine wpAnyH_done (by kernel_rfl) ?_ _
    clear hHeld HF
    skip
    have LA := L9
    have SA := S9
    have PA := P9
    have FA := F9b
    clear L9 S9 P9 F9b
    skip
    skip
    obtain ⟨wa, hwa⟩ : ∃ W, W = w9 := ⟨_, rfl⟩
    rw [← hwa] at LA SA PA FA ⊢
    clear hwa
    obtain ⟨F0, hF0⟩ : ∃ W, W = F1 := ⟨_, rfl⟩
    rw [← hF0] at LA FA
    clear hF0
    obtain ⟨y1a, hya⟩ : ∃ W, W = a8 := ⟨_, rfl⟩
    obtain ⟨y1c, hyc⟩ : ∃ W, W = c8 := ⟨_, rfl⟩
    obtain ⟨y1n, hyn⟩ : ∃ W, W = X.length := ⟨_, rfl⟩
    rw [← hya, ← hyc, ← hyn] at LA
    try rw [← hya, ← hyc, ← hyn]
    clear hya hyc hyn
    have HF : Hid (∀ W : World, W.heap[pb]? = wp.heap[pb]? → W.cell? ⟨pb, 2, none⟩ = some (.slice a2 n2 c2)) := Lib.hid (fun W hW => (HBX4.out W hW).2.1)
    go_upto_region 7 with fail
    refine wp_region_held_drew (S := (fun W => W.cell? ⟨pb, 2, none⟩ = some (.slice a2 n2 c2))) (by kernel_rfl) (by exact HF.out _ PA.out) (fun hHeld => ?_)
    have PD : Hid (wa.drew.heap[pb]? = wp.heap[pb]?) := Lib.hid PA.out
    have LD := Lib.hid (LA.out.kept (w' := wa.drew) (Nat.le_refl _) (fun _ _ => rfl))
    have SD : Hid (Spares F wp wa.drew) := Lib.hid (SA.out.trans (Spares.of_drewn F wa 1) (fun _ _ e => e))
    have FD : Hid (∀ k, F0 k → F k ∨ (wp.heap.size ≤ k ∧ k < wa.drew.heap.size)) := Lib.hid FA.out
    clear PA LA SA FA
    generalize wa.drew = wd at *
    refine wpAnyH_take (i := 0) (oi := ⟨_, _, _, _, _, _⟩) (v := ?_) rfl (by kernel_rfl) (by kernel_rfl) (by kernel_rfl) (fun _ _ _ h => h) (Or.inl ⟨by rfl, ?_⟩) (by assumption) ?_
    rotate_left
    · intro w hSw; (try dsimp only at hSw); first | (go_simp; done) | (go_simp; with_reducible rfl)
    try simp only [Act.put, List.setIfInBounds_toArray, List.set_cons_zero, List.set_cons_succ]
    refine wpAnyH_take (i := 1) (oi := ⟨_, _, _, _, _, _⟩) (v := ?_) rfl (by kernel_rfl) (by kernel_rfl) (by kernel_rfl) (fun _ _ _ h => h) (Or.inl ⟨by rfl, ?_⟩) (by assumption) ?_
    rotate_left
    · intro w hSw; (try dsimp only at hSw); first | (go_simp; done) | (go_simp; with_reducible rfl)
    try simp only [Act.put, List.setIfInBounds_toArray, List.set_cons_zero, List.set_cons_succ]
    refine wpAnyH_take (i := 2) (oi := ⟨_, _, _, _, _, _⟩) (v := ?_) rfl (by kernel_rfl) (by kernel_rfl) (by kernel_rfl) (fun _ _ _ h => h) (Or.inl ⟨by rfl, ?_⟩) (by assumption) ?_
    rotate_left
    · intro w hSw; (try dsimp only at hSw); first | (go_simp; done) | (go_simp; with_reducible rfl)
    try simp only [Act.put, List.setIfInBounds_toArray, List.set_cons_zero, List.set_cons_succ]
    refine wpAnyH_take (i := 3) (oi := ⟨_, _, _, _, _, _⟩) (v := ?_) rfl (by kernel_rfl) (by kernel_rfl) (by kernel_rfl) (fun _ _ _ h => h) (Or.inl ⟨by rfl, ?_⟩) (by assumption) ?_
    rotate_left
    · intro w hSw; (try dsimp only at hSw); first | (go_simp; done) | (go_simp; with_reducible rfl)
    try simp only [Act.put, List.setIfInBounds_toArray, List.set_cons_zero, List.set_cons_succ]
    refine wpAnyH_take (i := 5) (oi := ⟨_, _, _, _, _, _⟩) (v := ?_) rfl (by kernel_rfl) (by kernel_rfl) (by kernel_rfl) (fun _ _ _ h => h) (Or.inl ⟨by rfl, ?_⟩) (by assumption) ?_
    rotate_left
    · intro w hSw; (try dsimp only at hSw); first | (go_simp; done) | (go_simp; with_reducible rfl)
    try simp only [Act.put, List.setIfInBounds_toArray, List.set_cons_zero, List.set_cons_succ]
    refine wpAnyH_take (i := 6) (oi := ⟨_, _, _, _, _, _⟩) (v := ?_) rfl (by kernel_rfl) (by kernel_rfl) (by kernel_rfl) (fun _ _ _ h => h) (Or.inl ⟨by rfl, ?_⟩) (by assumption) ?_
    rotate_left
    · intro w hSw; (try dsimp only at hSw); first | (go_simp; done) | (go_simp; with_reducible rfl)
    try simp only [Act.put, List.setIfInBounds_toArray, List.set_cons_zero, List.set_cons_succ]
    refine wpAnyH_ready (rs := [4]) (by kernel_rfl) (by simp) ?_
    refine AllReadyH.cons (o := ⟨_, _, _, _, _, _⟩) rfl (fun K hK => ?_) AllReadyH.nil
    obtain ⟨_, e1, e2, e3⟩ := LD.out.cells (g := g) rfl
    rw [HM.out] at e1 e2 e3
    go_simp
    clear e1 e2 e3
    refine hK.out _ _ (by exact HF.out _ (Hid.out (by assumption))) (fun hHeld => ?_)
    clear hK K
    try simp only [Act.put, List.setIfInBounds_toArray, List.set_cons_zero, List.set_cons_succ]
    refine wpAnyH_ready (rs := [7]) (by kernel_rfl) (by simp) ?_
    refine AllReadyH.cons (o := ⟨_, _, _, _, _, _⟩) rfl (fun K hK => ?_) AllReadyH.nil
    have SRC : Hid (Src Tryd.prog 1 85 (.slice a2 n2 c2) n2 (sv l2) wd) := Lib.hid (by have h := ((ownS_strs (HU.out _ (HSP.out _ SD.out)).o2).kept (S' := fun _ => True) (w' := wd) (fun _ _ => ⟨trivial, rfl⟩)).src; rw [HN2.out] at h; exact h)
    refine step_own_src _ rfl _ _ 85 85 (by rfl) B 9 i0 (.string ByteArray.empty) 1 16 Tryd.underlying85 hi hz0 hz1 hz2 rfl (by decide) _ _ _ (by rfl) LD.out.part.o2 _ _ _ (by rfl) SRC.out (by unfold maxLen; omega) (by omega) (Nat.le_trans HB.out (Nat.le_trans hsw SD.out.size)) ?_
    intro v8 w8 hown8 hg8
    obtain ⟨X, hX⟩ : ∃ X, m2 ++ l2 = X := ⟨_, rfl⟩
    have HX := Lib.hid hX
    have O8 : OwnS w8 B v8 X := by rw [← hX]; exact ownS_more (by rw [HN2.out]) hown8
    have npb : ∀ k, F0 k → k ≠ pb := fun k hk e => by rcases FD.out k hk with h | h; exact HPB.out k h e; omega
    have P8 : Hid (w8.heap[pb]? = wp.heap[pb]?) := Lib.hid ((hg8.gb.block pb (by have := SD.out.size; omega) (fun e => npb pb (LD.out.part.g2 pb e.symm) rfl)).trans PD.out)
    have G8 := Lib.hid hg8
    obtain ⟨a8, c8, rfl⟩ := ownS_slice O8
    obtain ⟨_, e1, e2, e3⟩ := LD.out.cells (g := g) rfl
    rw [HM.out] at e1 e2 e3
    have bg : w8.heap[g]? = wd.heap[g]? := hg8.gb.block g (LD.out.lt g (LD.out.vF g rfl)).2 (fun e => LD.out.e2 g e.symm rfl)
    have f8 := (World.cell?_of_block (w := wd) (a := ⟨g, m * 4 + 2, none⟩) bg).trans e2
    have z8 := (World.frozen?_of_block (w := wd) (a := ⟨g, m * 4 + 2, none⟩) bg).trans (LD.out.frozen rfl _)
    have HO8 := Lib.hid O8
    have NPB := Lib.hid npb
    clear hown8 hg8 SRC hX O8 e1 e2 e3 bg npb
    refine hK.out _ _ (by exact HF.out _ (Hid.out (by assumption))) (fun hHeld => ?_)
    clear hK K
    try simp only [Act.put, List.setIfInBounds_toArray, List.set_cons_zero, List.set_cons_succ]
    refine wpAnyH_take (i := 8) (oi := ⟨_, _, _, _, _, _⟩) (v := ?_) rfl (by kernel_rfl) (by kernel_rfl) (by kernel_rfl) (fun _ _ _ h => h) (Or.inl ⟨by rfl, ?_⟩) (by assumption) ?_
    rotate_left
    · intro w hSw; (try dsimp only at hSw); first | (go_simp; done) | (go_simp; with_reducible rfl)
    try simp only [Act.put, List.setIfInBounds_toArray, List.set_cons_zero, List.set_cons_succ]
    refine wpAnyH_take (i := 9) (oi := ⟨_, _, _, _, _, _⟩) (v := ?_) rfl (by kernel_rfl) (by kernel_rfl) (by kernel_rfl) (fun _ _ _ h => h) (Or.inl ⟨by rfl, ?_⟩) (by assumption) ?_
    rotate_left
    · intro w hSw; (try dsimp only at hSw); first | (go_simp; done) | (go_simp; with_reducible rfl)
    try simp only [Act.put, List.setIfInBounds_toArray, List.set_cons_zero, List.set_cons_succ]
    refine wpAnyH_ready (rs := [10]) (by kernel_rfl) (by simp) ?_
    refine AllReadyH.cons (o := ⟨_, _, _, _, _, _⟩) rfl (fun K hK => ?_) AllReadyH.nil
    go_simp
    refine any_step (fun w9 hN => ?_)
    have L9 : Hid (LastO (fun k => F0 k ∨ (wd.heap.size ≤ k ∧ k < w8.heap.size)) S w9 B (.slice (some ⟨g, 0, none⟩) n vc) css ini 0 (.slice y1a y1n y1c) (.slice a8 X.length c8) (.slice b3 m3.length d3) (m1 ++ l1) (m2 ++ l2) m3) := Lib.hid (by have h := LD.out.app2 (g := g) (u := .slice a8 X.length c8) (r := l2) rfl (by rw [HX.out]; exact HO8.out) G8.out; rw [HM.out, ← hN] at h; exact h)
    have S9 : Hid (Spares F wp w9) := Lib.hid (by rw [hN]; exact (SD.out.trans ((Spares.of_grew (F := F0) G8.out LD.out.part.g2).trans (Spares.of_set F0 w8 g (m * 4 + 2) _ (LD.out.vF g rfl)) (fun _ _ e => e)) (fun j hj e => (FD.out j e).elim id (fun e2 => absurd hj (Nat.not_lt.2 e2.1)))))
    have hw9 : w9.heap.size = w8.heap.size := by rw [hN]; simp
    have h8 := G8.out.size
    have hsd := SD.out.size
    have F9 : Hid (∀ k, (F0 k ∨ (wd.heap.size ≤ k ∧ k < w8.heap.size)) → F k ∨ (wp.heap.size ≤ k ∧ k < w9.heap.size)) := Lib.hid (fun k hk => by rcases hk with h | h; (rcases FD.out k h with h2 | h2; exact Or.inl h2; exact Or.inr (by omega)); exact Or.inr (by omega))
    have P9 : Hid (w9.heap[pb]? = wp.heap[pb]?) := Lib.hid (by rw [hN]; exact (Below.heap_setCell _ _ _ _ (fun e => NPB.out g (LD.out.vF g rfl) (by simpa using e.symm))).trans P8.out)
    clear hN hw9 h8 hsd P8 G8 f8 z8 HO8 HX NPB PD LD SD FD
    obtain ⟨F1, hF1⟩ : ∃ F1 : Nat → Prop, (fun k => F0 k ∨ (wd.heap.size ≤ k ∧ k < w8.heap.size)) = F1 := ⟨_, rfl⟩
    have F9b : Hid (∀ k, F1 k → F k ∨ (wp.heap.size ≤ k ∧ k < w9.heap.size)) := Lib.hid (by rw [← hF1]; exact F9.out)
    rw [hF1] at L9
    clear F9 hF1
    try go_wp2_with fail
    refine hK.out _ _ (by exact HF.out _ (Hid.out (by assumption))) (fun hHeld => ?_)
    clear hK K
    try simp only [Act.put, List.setIfInBounds_toArray, List.set_cons_zero, List.set_cons_succ]
    refine wpAnyH_done (by kernel_rfl) ?_ _
    clear hHeld HF
    skip
    have LA := L9
    have SA := S9
    have PA := P9
    have FA := F9b
    clear L9 S9 P9 F9b
    skip
    skip
    obtain ⟨wa, hwa⟩ : ∃ W, W = w9 := ⟨_, rfl⟩
    rw [← hwa] at LA SA PA FA ⊢
    clear hwa
    obtain ⟨F0, hF0⟩ : ∃ W, W = F1 := ⟨_, rfl⟩
    rw [← hF0] at LA FA
    clear hF0
    obtain ⟨y2a, hya⟩ : ∃ W, W = a8 := ⟨_, rfl⟩
    obtain ⟨y2c, hyc⟩ : ∃ W, W = c8 := ⟨_, rfl⟩
    obtain ⟨y2n, hyn⟩ : ∃ W, W = X.length := ⟨_, rfl⟩
    rw [← hya, ← hyc, ← hyn] at LA
    try rw [← hya, ← hyc, ← hyn]
    clear hya hyc hyn
    have HF : Hid (∀ W : World, W.heap[pb]? = wp.heap[pb]? → W.cell? ⟨pb, 3, none⟩ = some (.slice a3 n3 c3)) := Lib.hid (fun W hW => (HBX4.out W hW).2.2)
    go_upto_region 8 with fail
    refine wp_region_held_drew (S := (fun W => W.cell? ⟨pb, 3, none⟩ = some (.slice a3 n3 c3))) (by kernel_rfl) (by exact HF.out _ PA.out) (fun hHeld => ?_)
    have PD : Hid (wa.drew.heap[pb]? = wp.heap[pb]?) := Lib.hid PA.out
    have LD := Lib.hid (LA.out.kept (w' := wa.drew) (Nat.le_refl _) (fun _ _ => rfl))
    have SD : Hid (Spares F wp wa.drew) := Lib.hid (SA.out.trans (Spares.of_drewn F wa 1) (fun _ _ e => e))
    have FD : Hid (∀ k, F0 k → F k ∨ (wp.heap.size ≤ k ∧ k < wa.drew.heap.size)) := Lib.hid FA.out
    clear PA LA SA FA
    generalize wa.drew = wd at *
    refine wpAnyH_take (i := 0) (oi := ⟨_, _, _, _, _, _⟩) (v := ?_) rfl (by kernel_rfl) (by kernel_rfl) (by kernel_rfl) (fun _ _ _ h => h) (Or.inl ⟨by rfl, ?_⟩) (by assumption) ?_
    rotate_left
    · intro w hSw; (try dsimp only at hSw); first | (go_simp; done) | (go_simp; with_reducible rfl)
    try simp only [Act.put, List.setIfInBounds_toArray, List.set_cons_zero, List.set_cons_succ]
    refine wpAnyH_take (i := 1) (oi := ⟨_, _, _, _, _, _⟩) (v := ?_) rfl (by kernel_rfl) (by kernel_rfl) (by kernel_rfl) (fun _ _ _ h => h) (Or.inl ⟨by rfl, ?_⟩) (by assumption) ?_
    rotate_left
    · intro w hSw; (try dsimp only at hSw); first | (go_simp; done) | (go_simp; with_reducible rfl)
    try simp only [Act.put, List.setIfInBounds_toArray, List.set_cons_zero, List.set_cons_succ]
    refine wpAnyH_take (i := 2) (oi := ⟨_, _, _, _, _, _⟩) (v := ?_) rfl (by kernel_rfl) (by kernel_rfl) (by kernel_rfl) (fun _ _ _ h => h) (Or.inl ⟨by rfl, ?_⟩) (by assumption) ?_
    rotate_left
    · intro w hSw; (try dsimp only at hSw); first | (go_simp; done) | (go_simp; with_reducible rfl)
    try simp only [Act.put, List.setIfInBounds_toArray, List.set_cons_zero, List.set_cons_succ]
    refine wpAnyH_take (i := 3) (oi := ⟨_, _, _, _, _, _⟩) (v := ?_) rfl (by kernel_rfl) (by kernel_rfl) (by kernel_rfl) (fun _ _ _ h => h) (Or.inl ⟨by rfl, ?_⟩) (by assumption) ?_
    rotate_left
    · intro w hSw; (try dsimp only at hSw); first | (go_simp; done) | (go_simp; with_reducible rfl)
    try simp only [Act.put, List.setIfInBounds_toArray, List.set_cons_zero, List.set_cons_succ]
    refine wpAnyH_take (i := 5) (oi := ⟨_, _, _, _, _, _⟩) (v := ?_) rfl (by kernel_rfl) (by kernel_rfl) (by kernel_rfl) (fun _ _ _ h => h) (Or.inl ⟨by rfl, ?_⟩) (by assumption) ?_
    rotate_left
    · intro w hSw; (try dsimp only at hSw); first | (go_simp; done) | (go_simp; with_reducible rfl)
    try simp only [Act.put, List.setIfInBounds_toArray, List.set_cons_zero, List.set_cons_succ]
    refine wpAnyH_take (i := 6) (oi := ⟨_, _, _, _, _, _⟩) (v := ?_) rfl (by kernel_rfl) (by kernel_rfl) (by kernel_rfl) (fun _ _ _ h => h) (Or.inl ⟨by rfl, ?_⟩) (by assumption) ?_
    rotate_left
    · intro w hSw; (try dsimp only at hSw); first | (go_simp; done) | (go_simp; with_reducible rfl)
    try simp only [Act.put, List.setIfInBounds_toArray, List.set_cons_zero, List.set_cons_succ]
    refine wpAnyH_ready (rs := [4]) (by kernel_rfl) (by simp) ?_
    refine AllReadyH.cons (o := ⟨_, _, _, _, _, _⟩) rfl (fun K hK => ?_) AllReadyH.nil
    obtain ⟨_, e1, e2, e3⟩ := LD.out.cells (g := g) rfl
    rw [HM.out] at e1 e2 e3
    go_simp
    clear e1 e2 e3
    refine hK.out _ _ (by exact HF.out _ (Hid.out (by assumption))) (fun hHeld => ?_)
    clear hK K
    try simp only [Act.put, List.setIfInBounds_toArray, List.set_cons_zero, List.set_cons_succ]
    refine wpAnyH_ready (rs := [7]) (by kernel_rfl) (by simp) ?_
    refine AllReadyH.cons (o := ⟨_, _, _, _, _, _⟩) rfl (fun K hK => ?_) AllReadyH.nil
    have SRC : Hid (Src Tryd.prog 1 85 (.slice a3 n3 c3) n3 (sv l3) wd) := Lib.hid (by have h := ((ownS_strs (HU.out _ (HSP.out _ SD.out)).o3).kept (S' := fun _ => True) (w' := wd) (fun _ _ => ⟨trivial, rfl⟩)).src; rw [HN3.out] at h; exact h)
    refine step_own_src _ rfl _ _ 85 85 (by rfl) B 9 i0 (.string ByteArray.empty) 1 16 Tryd.underlying85 hi hz0 hz1 hz2 rfl (by decide) _ _ _ (by rfl) LD.out.part.o3 _ _ _ (by rfl) SRC.out (by unfold maxLen; omega) (by omega) (Nat.le_trans HB.out (Nat.le_trans hsw SD.out.size)) ?_
    intro v8 w8 hown8 hg8
    obtain ⟨X, hX⟩ : ∃ X, m3 ++ l3 = X := ⟨_, rfl⟩
    have HX := Lib.hid hX
    have O8 : OwnS w8 B v8 X := by rw [← hX]; exact ownS_more (by rw [HN3.out]) hown8
    have npb : ∀ k, F0 k → k ≠ pb := fun k hk e => by rcases FD.out k hk with h | h; exact HPB.out k h e; omega
    have P8 : Hid (w8.heap[pb]? = wp.heap[pb]?) := Lib.hid ((hg8.gb.block pb (by have := SD.out.size; omega) (fun e => npb pb (LD.out.part.g3 pb e.symm) rfl)).trans PD.out)
    have G8 := Lib.hid hg8
    obtain ⟨a8, c8, rfl⟩ := ownS_slice O8
    obtain ⟨_, e1, e2, e3⟩ := LD.out.cells (g := g) rfl
    rw [HM.out] at e1 e2 e3
    have bg : w8.heap[g]? = wd.heap[g]? := hg8.gb.block g (LD.out.lt g (LD.out.vF g rfl)).2 (fun e => LD.out.e3 g e.symm rfl)
    have f8 := (World.cell?_of_block (w := wd) (a := ⟨g, m * 4 + 3, none⟩) bg).trans e3
    have z8 := (World.frozen?_of_block (w := wd) (a := ⟨g, m * 4 + 3, none⟩) bg).trans (LD.out.frozen rfl _)
    have HO8 := Lib.hid O8
    have NPB := Lib.hid npb
    clear hown8 hg8 SRC hX O8 e1 e2 e3 bg npb
    refine hK.out _ _ (by exact HF.out _ (Hid.out (by assumption))) (fun hHeld => ?_)
    clear hK K
    try simp only [Act.put, List.setIfInBounds_toArray, List.set_cons_zero, List.set_cons_succ]
    refine wpAnyH_take (i := 8) (oi := ⟨_, _, _, _, _, _⟩) (v := ?_) rfl (by kernel_rfl) (by kernel_rfl) (by kernel_rfl) (fun _ _ _ h => h) (Or.inl ⟨by rfl, ?_⟩) (by assumption) ?_
    rotate_left
    · intro w hSw; (try dsimp only at hSw); first | (go_simp; done) | (go_simp; with_reducible rfl)
    try simp only [Act.put, List.setIfInBounds_toArray, List.set_cons_zero, List.set_cons_succ]
    refine wpAnyH_take (i := 9) (oi := ⟨_, _, _, _, _, _⟩) (v := ?_) rfl (by kernel_rfl) (by kernel_rfl) (by kernel_rfl) (fun _ _ _ h => h) (Or.inl ⟨by rfl, ?_⟩) (by assumption) ?_
    rotate_left
    · intro w hSw; (try dsimp only at hSw); first | (go_simp; done) | (go_simp; with_reducible rfl)
    try simp only [Act.put, List.setIfInBounds_toArray, List.set_cons_zero, List.set_cons_succ]
    refine wpAnyH_ready (rs := [10]) (by kernel_rfl) (by simp) ?_
    refine AllReadyH.cons (o := ⟨_, _, _, _, _, _⟩) rfl (fun K hK => ?_) AllReadyH.nil
    go_simp
    refine any_step (fun w9 hN => ?_)
    have L9 : Hid (LastO (fun k => F0 k ∨ (wd.heap.size ≤ k ∧ k < w8.heap.size)) S w9 B (.slice (some ⟨g, 0, none⟩) n vc) css ini 0 (.slice y1a y1n y1c) (.slice y2a y2n y2c) (.slice a8 X.length c8) (m1 ++ l1) (m2 ++ l2) (m3 ++ l3)) := Lib.hid (by have h := LD.out.app3 (g := g) (u := .slice a8 X.length c8) (r := l3) rfl (by rw [HX.out]; exact HO8.out) G8.out; rw [HM.out, ← hN] at h; exact h)
    have S9 : Hid (Spares F wp w9) := Lib.hid (by rw [hN]; exact (SD.out.trans ((Spares.of_grew (F := F0) G8.out LD.out.part.g3).trans (Spares.of_set F0 w8 g (m * 4 + 3) _ (LD.out.vF g rfl)) (fun _ _ e => e)) (fun j hj e => (FD.out j e).elim id (fun e2 => absurd hj (Nat.not_lt.2 e2.1)))))
    have hw9 : w9.heap.size = w8.heap.size := by rw [hN]; simp
    have h8 := G8.out.size
    have hsd := SD.out.size
    have F9 : Hid (∀ k, (F0 k ∨ (wd.heap.size ≤ k ∧ k < w8.heap.size)) → F k ∨ (wp.heap.size ≤ k ∧ k < w9.heap.size)) := Lib.hid (fun k hk => by rcases hk with h | h; (rcases FD.out k h with h2 | h2; exact Or.inl h2; exact Or.inr (by omega)); exact Or.inr (by omega))
    have P9 : Hid (w9.heap[pb]? = wp.heap[pb]?) := Lib.hid (by rw [hN]; exact (Below.heap_setCell _ _ _ _ (fun e => NPB.out g (LD.out.vF g rfl) (by simpa using e.symm))).trans P8.out)
    clear hN hw9 h8 hsd P8 G8 f8 z8 HO8 HX NPB PD LD SD FD
    obtain ⟨F1, hF1⟩ : ∃ F1 : Nat → Prop, (fun k => F0 k ∨ (wd.heap.size ≤ k ∧ k < w8.heap.size)) = F1 := ⟨_, rfl⟩
    have F9b : Hid (∀ k, F1 k → F k ∨ (wp.heap.size ≤ k ∧ k < w9.heap.size)) := Lib.hid (by rw [← hF1]; exact F9.out)
    rw [hF1] at L9
    clear F9 hF1
    try go_wp2_with fail
    refine hK.out _ _ (by exact HF.out _ (Hid.out (by assumption))) (fun hHeld => ?_)
    clear hK K
    try simp only [Act.put, List.setIfInBounds_toArray, List.set_cons_zero, List.set_cons_succ]
    refine wpAnyH_done (by kernel_rfl) ?_ _
    clear hHeld HF
    skip
    have LA := L9
    have SA := S9
    have PA := P9
    have FA := F9b
    clear L9 S9 P9 F9b
    skip
    skip
    obtain ⟨wa, hwa⟩ : ∃ W, W = w9 := ⟨_, rfl⟩
    rw [← hwa] at LA SA PA FA ⊢
    clear hwa
    obtain ⟨F0, hF0⟩ : ∃ W, W = F1 := ⟨_, rfl⟩
    rw [← hF0] at LA FA
    clear hF0
    obtain ⟨y3a, hya⟩ : ∃ W, W = a8 := ⟨_, rfl⟩
    obtain ⟨y3c, hyc⟩ : ∃ W, W = c8 := ⟨_, rfl⟩
    obtain ⟨y3n, hyn⟩ : ∃ W, W = X.length := ⟨_, rfl⟩
    rw [← hya, ← hyc, ← hyn] at LA
    try rw [← hya, ← hyc, ← hyn]
    clear hya hyc hyn
    go_wp2_with fail
    go_ret
    refine ⟨_, _, rfl, ⟨LA.out.lt, Or.inr ⟨S, css, ini, ⟨0, m1 ++ l1, m2 ++ l2, m3 ++ l3⟩, _, _, _, rfl, LA.out⟩⟩, fun k hk => ?_, HSP.out _ SA.out⟩
    rcases FA.out k hk with h | h
    · exact Or.inl h
    · exact Or.inr (Or.inr ⟨by omega, h.2⟩)
end Go.Proofs.YtjlpdoppnhcjoaaDoor
