/- The walk of awake. -/
import Derived.Test.YtfiogjdjcocbnaaWeavP
import Derived.Test.YtfiogjdjcocbnaaLinO
namespace Go.Proofs.Ytfiogjdjcocbnaa
open Go.RowKit

theorem strs_lit (w : World) (l : List (List UInt8)) (hl : l.length ≤ 1000) : StrsC (fun k => w.heap.size ≤ k ∧ k < w.heap.size + 1) (w.alloc (.cells (sv l).toArray 9)) (.slice (some ⟨w.heap.size, 0, none⟩) l.length l.length) l := by
  have h := row_cells w (sv l).toArray 9 l.length 1 (by simp [sv_len]) (by unfold maxLen; omega) (by simpa using sv_one l)
  unfold StrsC
  simpa using h
/-- Three rows of texts, made one behind the other. -/
theorem three_lits (w : World) (l1 l2 l3 : List (List UInt8)) (h1 : l1.length ≤ 1000) (h2 : l2.length ≤ 1000) (h3 : l3.length ≤ 1000) (W : World) (hW : W = ((w.alloc (.cells (sv l1).toArray 9)).alloc (.cells (sv l2).toArray 9)).alloc (.cells (sv l3).toArray 9)) :
    StrsC (fun k => k < W.heap.size) W (.slice (some ⟨w.heap.size, 0, none⟩) l1.length l1.length) l1 ∧ StrsC (fun k => k < W.heap.size) W (.slice (some ⟨w.heap.size + 1, 0, none⟩) l2.length l2.length) l2 ∧ StrsC (fun k => k < W.heap.size) W (.slice (some ⟨w.heap.size + 1 + 1, 0, none⟩) l3.length l3.length) l3 ∧ Below w.heap.size w W := by
  have e1 : (w.alloc (.cells (sv l1).toArray 9)).heap.size = w.heap.size + 1 := by simp
  have e2 : ((w.alloc (.cells (sv l1).toArray 9)).alloc (.cells (sv l2).toArray 9)).heap.size = w.heap.size + 1 + 1 := by simp
  have e3 : W.heap.size = w.heap.size + 1 + 1 + 1 := by rw [hW]; simp
  have s1 := strs_lit w l1 h1
  have s2 := strs_lit (w.alloc (.cells (sv l1).toArray 9)) l2 h2
  have s3 := strs_lit ((w.alloc (.cells (sv l1).toArray 9)).alloc (.cells (sv l2).toArray 9)) l3 h3
  rw [e1] at s2
  rw [e2, ← hW] at s3
  refine ⟨s1.kept (fun k hk => ⟨by omega, ?_⟩), s2.kept (fun k hk => ⟨by omega, ?_⟩), s3.kept (fun k hk => ⟨by omega, rfl⟩), ?_⟩
  · rw [hW]; exact (Below.heap_alloc _ _ _ (by rw [e2]; omega)).trans (Below.heap_alloc _ _ _ (by rw [e1]; omega))
  · rw [hW]; exact Below.heap_alloc _ _ _ (by rw [e2]; omega)
  · rw [hW]; exact (((Below.refl w.heap.size w).alloc (Nat.le_refl _) _).alloc (by rw [e1]; omega) _).alloc (by rw [e2]; omega) _
theorem aw_one : mergeN ([[97, 10], [98, 10], [99, 10]] : List (List UInt8)) [[120, 10], [98, 10], [99, 10]] [[97, 10], [98, 10], [121, 10]] = [⟨1, [[97, 10]], [[120, 10]], [[97, 10]]⟩, ⟨0, [[98, 10]], [[98, 10]], [[98, 10]]⟩, ⟨2, [[99, 10]], [[99, 10]], [[121, 10]]⟩] := by kernel_rfl
theorem aw_two : mergeN ([[97]] : List (List UInt8)) [[120]] [[121]] = [⟨4, [[97]], [[120]], [[121]]⟩] := by kernel_rfl
theorem aw_text1 : textN (headN [108]) (footN [114]) [⟨1, [[97, 10]], [[120, 10]], [[97, 10]]⟩, ⟨0, [[98, 10]], [[98, 10]], [[98, 10]]⟩, ⟨2, [[99, 10]], [[99, 10]], [[121, 10]]⟩] = [[120, 10], [98, 10], [121, 10]] := by kernel_rfl
theorem aw_text2 : textN (headN [108]) (footN [114]) [⟨4, [[97]], [[120]], [[121]]⟩] = [[60, 60, 60, 60, 60, 60, 60, 32, 108, 10], [120, 10], [124, 124, 124, 124, 124, 124, 124, 32, 98, 97, 115, 101, 10], [97, 10], [61, 61, 61, 61, 61, 61, 61, 10], [121, 10], [62, 62, 62, 62, 62, 62, 62, 32, 114, 10]] := by kernel_rfl
theorem aw_calm1 : calmN ([⟨1, [[97, 10]], [[120, 10]], [[97, 10]]⟩, ⟨0, [[98, 10]], [[98, 10]], [[98, 10]]⟩, ⟨2, [[99, 10]], [[99, 10]], [[121, 10]]⟩] : List (PartN (List UInt8))) = true := by kernel_rfl
theorem aw_calm2 : calmN ([⟨4, [[97]], [[120]], [[121]]⟩] : List (PartN (List UInt8))) = false := by kernel_rfl
theorem MergeP.open {w w' : World} {M : List (PartN (List UInt8))} {e : Ending} (h : MergeP w M e w') : ∃ a c, e = .returned (.tuple #[.slice a M.length c, .int .i64 0]) ∧ PartsC (fun k => w.heap.size ≤ k ∧ k < w'.heap.size) w' (.slice a M.length c) M ∧ Below w.heap.size w w' := by
  obtain ⟨v, rfl, hp, hb⟩ := h
  obtain ⟨a, c, rfl⟩ := hp.shape
  exact ⟨a, c, rfl, hp, hb⟩
set_option maxRecDepth 100000 in
set_option maxHeartbeats 8000000 in
theorem awake8_any (w : World) : Calls Try.prog 34 #[] w fun e w' => e = .returned (.bool true) ∧ Below w.heap.size w w' := by
  have HL := Lib.hid (three_lits w [[97, 10], [98, 10], [99, 10]] [[120, 10], [98, 10], [99, 10]] [[97, 10], [98, 10], [121, 10]] (by decide) (by decide) (by decide) _ rfl)
  have HL2 := Lib.hid (fun W => three_lits W [[97]] [[120]] [[121]] (by decide) (by decide) (by decide) _ rfl)
  go_enter Try.func34, Try.ntmps34
  go_wp2_with fail
  refine (merge_any _ _ _ _ _ _ [[97, 10], [98, 10], [99, 10]] [[120, 10], [98, 10], [99, 10]] [[97, 10], [98, 10], [121, 10]] _ (fun _ hk => hk) (fun _ hk => hk) (fun _ hk => hk) HL.out.1 HL.out.2.1 HL.out.2.2.1 (by decide) (by decide) (by decide) (by decide) (by decide) (by decide) (by decide) (by decide)).mono ?_
  intro e w1 h1
  obtain ⟨a1, c1, rfl, hp1, hb1⟩ := h1.open
  rw [aw_one] at hp1 ⊢
  have P1 := Lib.hid hp1
  have B1 := Lib.hid (HL.out.2.2.2.trans (hb1.mono HL.out.2.2.2.size))
  clear h1 hp1 hb1 HL
  go_wp2_with fail
  refine (text_any _ _ _ [108] [114] w1 (fun k hk => hk.2) P1.out (by decide) (by decide) (by decide) (by decide) (by decide)).mono ?_
  rintro e w2 ⟨v2, rfl, ho2, hb2⟩
  rw [aw_text1] at ho2
  rw [aw_calm1]
  have hs1 := B1.out.size
  have B2 := Lib.hid (B1.out.trans (hb2.mono hs1))
  have O2 := Lib.hid (ownS_c ho2)
  obtain ⟨a2, c2, rfl⟩ := ownS_slice ho2
  clear ho2 hb2 P1
  have hs2 := B2.out.size
  go_wp2_with fail
  refine (merge_any _ _ _ _ _ _ [[97]] [[120]] [[121]] _ (fun _ hk => hk) (fun _ hk => hk) (fun _ hk => hk) (HL2.out w2).1 (HL2.out w2).2.1 (HL2.out w2).2.2.1 (by decide) (by decide) (by decide) (by decide) (by decide) (by decide) (by decide) (by decide)).mono ?_
  intro e w3 h3
  obtain ⟨a3, c3, rfl, hp3, hb3⟩ := h3.open
  rw [aw_two] at hp3 ⊢
  have P3 := Lib.hid hp3
  have hb23 := (HL2.out w2).2.2.2.trans (hb3.mono (HL2.out w2).2.2.2.size)
  have B3 := Lib.hid (B2.out.trans (hb23.mono hs2))
  have O3 := Lib.hid (O2.out.kept (S' := fun k => k < w2.heap.size) (w' := w3) (fun k hk => ⟨hk.2, hb23.block k hk.2⟩))
  have hs23 := hb23.size
  clear h3 hp3 hb3 HL2 O2 hb23
  go_wp2_with fail
  refine (text_any _ _ _ [108] [114] w3 (fun k hk => hk.2) P3.out (by decide) (by decide) (by decide) (by decide) (by decide)).mono ?_
  rintro e w4 ⟨v4, rfl, ho4, hb4⟩
  rw [aw_text2] at ho4
  rw [aw_calm2]
  have hs3 := B3.out.size
  have B4 := Lib.hid (B3.out.trans (hb4.mono hs3))
  have O4 := Lib.hid (ownS_c ho4)
  have O24 := Lib.hid (O3.out.kept (S' := fun k => k < w2.heap.size) (w' := w4) (fun k hk => ⟨hk, hb4.block k (by omega)⟩))
  have P4 := Lib.hid (P3.out.kept part_keeps (S' := fun k => k < w3.heap.size) (w' := w4) (fun k hk => ⟨hk.2, hb4.block k hk.2⟩))
  obtain ⟨a4, c4, rfl⟩ := ownS_slice ho4
  clear ho4 hb4 O3 P3
  obtain ⟨g2, o2, rfl, _, hk1, hk2, hx⟩ := O24.out.at (by decide)
  obtain ⟨g4, o4, rfl, _, hk3, hk4, hy⟩ := O4.out.at (by decide)
  obtain ⟨g3, o3, rfl, _, hk5, hk6, hz⟩ := part_at P4.out (by decide)
  have f0 : w4.cell? ⟨g2, o2, none⟩ = some (.string ⟨#[120, 10]⟩) := hx 0 (by decide)
  have f2 : w4.cell? ⟨g2, o2 + 2, none⟩ = some (.string ⟨#[121, 10]⟩) := hx 2 (by decide)
  have f4 : w4.cell? ⟨g4, o4 + 1, none⟩ = some (.string ⟨#[120, 10]⟩) := hy 1 (by decide)
  obtain ⟨_, _, _, _, _, _, z0, _⟩ := hz 0 _ rfl
  have f3 : w4.cell? ⟨g3, o3, none⟩ = some (.int .i64 4) := by simpa using z0
  have k1 : (3 : Nat) ≤ c2 := hk1
  have k3 : (7 : Nat) ≤ c4 := hk3
  have k5 : (1 : Nat) ≤ c3 := hk5
  clear hx hy hz z0 hk1 hk3 hk5
  go_wp2_with fail
  go_ret
  exact ⟨rfl, B4.out⟩
end Go.Proofs.Ytfiogjdjcocbnaa
