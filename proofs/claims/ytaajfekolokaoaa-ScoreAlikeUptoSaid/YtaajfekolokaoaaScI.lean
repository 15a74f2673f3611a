/- The walk of the laws' awake. -/
import Derived.Test.YtaajfekolokaoaaScH
import Derived.Test.YtaajfekolokaoaaScL
import Derived.Test.YtaajfekolokaoaaScG
namespace Go.Proofs.Ytaajfekolokaoaa
open Go.RowKit

theorem strs_lit (w : World) (l : List (List UInt8)) (hl : l.length ≤ 1000) : StrsC (fun k => w.heap.size ≤ k ∧ k < w.heap.size + 1) (w.alloc (.cells (sv l).toArray 9)) (.slice (some ⟨w.heap.size, 0, none⟩) l.length l.length) l := by
  have h := row_cells w (sv l).toArray 9 l.length 1 (by simp [sv_len]) (by unfold maxLen; omega) (by simpa using sv_one l)
  unfold StrsC
  simpa using h
theorem two_lits (w : World) (l1 l2 : List (List UInt8)) (h1 : l1.length ≤ 1000) (h2 : l2.length ≤ 1000) (W : World) (hW : W = (w.alloc (.cells (sv l1).toArray 9)).alloc (.cells (sv l2).toArray 9)) :
    StrsC (fun k => k < W.heap.size) W (.slice (some ⟨w.heap.size, 0, none⟩) l1.length l1.length) l1 ∧ StrsC (fun k => k < W.heap.size) W (.slice (some ⟨w.heap.size + 1, 0, none⟩) l2.length l2.length) l2 ∧ Below w.heap.size w W := by
  have e1 : (w.alloc (.cells (sv l1).toArray 9)).heap.size = w.heap.size + 1 := by simp
  have e2 : W.heap.size = w.heap.size + 1 + 1 := by rw [hW]; simp
  have s1 := strs_lit w l1 h1
  have s2 := strs_lit (w.alloc (.cells (sv l1).toArray 9)) l2 h2
  rw [e1, ← hW] at s2
  refine ⟨s1.kept (fun k hk => ⟨by omega, ?_⟩), s2.kept (fun k hk => ⟨by omega, rfl⟩), ?_⟩
  · rw [hW]; exact Below.heap_alloc _ _ _ (by rw [e1]; omega)
  · rw [hW]; exact ((Below.refl w.heap.size w).alloc (Nat.le_refl _) _).alloc (by rw [e1]; omega) _
def lab : List (List UInt8) := [[97], [98]]
def lac : List (List UInt8) := [[97], [99]]
def mvY : Mv := ⟨[120], [121], 4602678819172646912⟩
def mvZ : Mv := ⟨[120], [122], 4607182418800017408⟩
theorem aw_f : alN lab lac = 4602678819172646912 := by kernel_rfl
theorem aw_g : alN [] [] = 9221120237041090560 := by kernel_rfl
theorem aw_c : candN 4602678819172646912 [⟨[120], lab⟩] [⟨[121], lac⟩, ⟨[122], lab⟩] = [mvY, mvZ] := by kernel_rfl
theorem aw_m : chosenF [mvZ, mvY] [] [] = [mvZ] := by kernel_rfl
theorem aw_o : ordN mvZ mvY < 0 := by decide +kernel
theorem aw_s : sumF [4607182418800017408, 9221120237041090561, 4611686018427387904] 0 = some 4613937818241073152 := by kernel_rfl
theorem aw_n : oddN [4607182418800017408, 9221120237041090561, 4611686018427387904] = 1 ∧ canonB 4613937818241073152 = 4613937818241073152 := by decide +kernel
theorem texts_of (S : Nat → Prop) (W : World) (g : Nat) (css : List (List Value)) (ts : List TextN) (t : TypeId) (hlen : css.length = ts.length) (h2 : ∀ cs ∈ css, cs.length = 2 ∧ ∀ u ∈ cs, u.oneCell' = true) (hg : W.heap[g]? = some (.cells css.flatten.toArray t (0, 0))) (hS : S g) (hl : ts.length ≤ 1000)
    (hr : ∀ (j : Nat) (e : TextN) (cs : List Value), ts[j]? = some e → css[j]? = some cs → textRel S W e cs) : TextsC S W (.slice (some ⟨g, 0, none⟩) ts.length ts.length) ts := by
  refine ⟨css, hlen, fun c hc => (h2 c hc).1, ⟨by rw [flatten_len _ (fun c hc => (h2 c hc).1), hlen], fun u hu => ?_, Or.inr ⟨g, 0, ts.length, rfl, hS, Nat.le_refl _, by unfold maxLen; omega, fun j u hj => ?_⟩⟩, hr⟩
  · obtain ⟨c, hc, hu⟩ := List.mem_flatten.1 hu
    exact (h2 c hc).2 u hu
  · rw [Nat.zero_add, cell_of_row _ _ _ _ _ _ hg]
    simpa using hj
theorem five_lits (w : World) (W : World) (hW : W = ((((w.alloc (.cells (sv lab).toArray 9)).alloc (.cells #[.string ⟨#[120]⟩, .slice (some ⟨w.heap.size, 0, none⟩) 2 2] 49)).alloc (.cells (sv lac).toArray 9)).alloc (.cells (sv lab).toArray 9)).alloc (.cells #[.string ⟨#[121]⟩, .slice (some ⟨w.heap.size + 1 + 1, 0, none⟩) 2 2, .string ⟨#[122]⟩, .slice (some ⟨w.heap.size + 1 + 1 + 1, 0, none⟩) 2 2] 49)) :
    TextsC (fun k => k < W.heap.size) W (.slice (some ⟨w.heap.size + 1, 0, none⟩) 1 1) [⟨[120], lab⟩] ∧ TextsC (fun k => k < W.heap.size) W (.slice (some ⟨w.heap.size + 1 + 1 + 1 + 1, 0, none⟩) 2 2) [⟨[121], lac⟩, ⟨[122], lab⟩] ∧ Below w.heap.size w W := by
  have z : W.heap.size = w.heap.size + 1 + 1 + 1 + 1 + 1 := by rw [hW]; simp
  generalize ha : w.alloc (.cells (sv lab).toArray 9) = wa at hW
  generalize hb : wa.alloc (.cells #[.string ⟨#[120]⟩, .slice (some ⟨w.heap.size, 0, none⟩) 2 2] 49) = wb at hW
  generalize hc : wb.alloc (.cells (sv lac).toArray 9) = wc at hW
  generalize hd : wc.alloc (.cells (sv lab).toArray 9) = wd at hW
  have za : wa.heap.size = w.heap.size + 1 := by rw [← ha]; simp
  have zb : wb.heap.size = w.heap.size + 1 + 1 := by rw [← hb]; simp [za]
  have zc : wc.heap.size = w.heap.size + 1 + 1 + 1 := by rw [← hc]; simp [zb]
  have zd : wd.heap.size = w.heap.size + 1 + 1 + 1 + 1 := by rw [← hd]; simp [zc]
  have s1 := strs_lit w lab (by decide)
  have s2 := strs_lit wb lac (by decide)
  have s3 := strs_lit wc lab (by decide)
  rw [ha] at s1
  rw [hc, zb] at s2
  rw [hd, zc] at s3
  have ka : ∀ q, q < wa.heap.size → wb.heap[q]? = wa.heap[q]? := fun q hq => by rw [← hb]; exact Below.heap_alloc _ _ _ hq
  have kb : ∀ q, q < wb.heap.size → wc.heap[q]? = wb.heap[q]? := fun q hq => by rw [← hc]; exact Below.heap_alloc _ _ _ hq
  have kc : ∀ q, q < wc.heap.size → wd.heap[q]? = wc.heap[q]? := fun q hq => by rw [← hd]; exact Below.heap_alloc _ _ _ hq
  have kd : ∀ q, q < wd.heap.size → W.heap[q]? = wd.heap[q]? := fun q hq => by rw [hW]; exact Below.heap_alloc _ _ _ hq
  have t1 : StrsC (fun k => k < W.heap.size) W (.slice (some ⟨w.heap.size, 0, none⟩) 2 2) lab := s1.kept (fun k hk => ⟨by omega, (kd k (by omega)).trans ((kc k (by omega)).trans ((kb k (by omega)).trans (ka k (by omega))))⟩)
  have t2 : StrsC (fun k => k < W.heap.size) W (.slice (some ⟨w.heap.size + 1 + 1, 0, none⟩) 2 2) lac := s2.kept (fun k hk => ⟨by omega, (kd k (by omega)).trans (kc k (by omega))⟩)
  have t3 : StrsC (fun k => k < W.heap.size) W (.slice (some ⟨w.heap.size + 1 + 1 + 1, 0, none⟩) 2 2) lab := s3.kept (fun k hk => ⟨by omega, kd k (by omega)⟩)
  have b1 : W.heap[w.heap.size + 1]? = some (.cells #[.string ⟨#[120]⟩, .slice (some ⟨w.heap.size, 0, none⟩) 2 2] 49 (0, 0)) := by
    have h := new_five wa #[.string ⟨#[120]⟩, .slice (some ⟨w.heap.size, 0, none⟩) 2 2] 49
    rw [hb, za] at h
    exact (kd _ (by omega)).trans ((kc _ (by omega)).trans ((kb _ (by omega)).trans h))
  have b2 : W.heap[w.heap.size + 1 + 1 + 1 + 1]? = some (.cells #[.string ⟨#[121]⟩, .slice (some ⟨w.heap.size + 1 + 1, 0, none⟩) 2 2, .string ⟨#[122]⟩, .slice (some ⟨w.heap.size + 1 + 1 + 1, 0, none⟩) 2 2] 49 (0, 0)) := by
    have h := new_five wd #[.string ⟨#[121]⟩, .slice (some ⟨w.heap.size + 1 + 1, 0, none⟩) 2 2, .string ⟨#[122]⟩, .slice (some ⟨w.heap.size + 1 + 1 + 1, 0, none⟩) 2 2] 49
    rw [← hW, zd] at h
    exact h
  refine ⟨?_, ?_, ?_⟩
  · refine texts_of _ W (w.heap.size + 1) [[.string ⟨#[120]⟩, .slice (some ⟨w.heap.size, 0, none⟩) 2 2]] [⟨[120], lab⟩] _ rfl (fun c hc => ?_) b1 (by omega) (by simp) (fun j e cs he hcs => ?_)
    · simp at hc; subst hc; exact ⟨rfl, fun u hu => by simp at hu; rcases hu with rfl | rfl <;> rfl⟩
    · match j, he, hcs with
      | 0, he, hcs => injection he with he; injection hcs with hcs; subst he; subst hcs; exact ⟨_, rfl, t1⟩
      | j + 1, he, _ => cases he
  · refine texts_of _ W (w.heap.size + 1 + 1 + 1 + 1) [[.string ⟨#[121]⟩, .slice (some ⟨w.heap.size + 1 + 1, 0, none⟩) 2 2], [.string ⟨#[122]⟩, .slice (some ⟨w.heap.size + 1 + 1 + 1, 0, none⟩) 2 2]] [⟨[121], lac⟩, ⟨[122], lab⟩] _ rfl (fun c hc => ?_) b2 (by omega) (by simp) (fun j e cs he hcs => ?_)
    · simp at hc; rcases hc with rfl | rfl <;> exact ⟨rfl, fun u hu => by simp at hu; rcases hu with rfl | rfl <;> rfl⟩
    · match j, he, hcs with
      | 0, he, hcs => injection he with he; injection hcs with hcs; subst he; subst hcs; exact ⟨_, rfl, t2⟩
      | 1, he, hcs => injection he with he; injection hcs with hcs; subst he; subst hcs; exact ⟨_, rfl, t3⟩
      | j + 2, he, _ => cases he
  · have c0 := (Below.refl w.heap.size w).alloc (Nat.le_refl _) (.cells (sv lab).toArray 9)
    rw [ha] at c0
    have c1 := c0.alloc c0.size (.cells #[.string ⟨#[120]⟩, .slice (some ⟨w.heap.size, 0, none⟩) 2 2] 49)
    rw [hb] at c1
    have c2 := c1.alloc c1.size (.cells (sv lac).toArray 9)
    rw [hc] at c2
    have c3 := c2.alloc c2.size (.cells (sv lab).toArray 9)
    rw [hd] at c3
    rw [hW]
    exact c3.alloc c3.size _
theorem ownV_one {w : World} {B : Nat} {v : Value} {m : Mv} (h : OwnV w B v [m]) : ∃ X cap, v = .slice (some ⟨X, 0, none⟩) 1 cap ∧ X < w.heap.size ∧ w.cell? ⟨X, 0, none⟩ = some (.string ⟨m.fr.toArray⟩) ∧ w.cell? ⟨X, 1, none⟩ = some (.string ⟨m.ed.toArray⟩) ∧ w.cell? ⟨X, 2, none⟩ = some (.float .f64 m.sc) := by
  rcases h.2 with ⟨_, e⟩ | ⟨X, cap, cur, e1, e2, e3, e4, e5, e6, e7⟩
  · cases e
  · have hc : ∀ k x, (m3 [m])[k]? = some x → w.cell? ⟨X, k, none⟩ = some x := fun k x hx => by
      rw [cell_of_row _ _ _ _ _ _ e3]
      rw [← e7, List.getElem?_take] at hx
      split at hx
      · simpa using hx
      · cases hx
    exact ⟨X, cap, e1, (Array.getElem?_eq_some_iff.1 e3).1, hc 0 _ rfl, hc 1 _ rfl, hc 2 _ rfl⟩
theorem text_ok (t : TextN) (h : t ∈ ([⟨[120], lab⟩, ⟨[121], lac⟩, ⟨[122], lab⟩] : List TextN)) : TextOk t := by
  simp at h
  rcases h with rfl | rfl | rfl <;> exact ⟨by decide, by decide, by decide⟩
set_option maxRecDepth 100000 in
set_option maxHeartbeats 4000000 in
theorem awake12_any (w : World) : Calls Try.prog 8 #[] w (TrueP w) := by
  have HL1 := Lib.hid (two_lits w lab lac (by decide) (by decide) _ rfl)
  have HL3 := Lib.hid (fun W => five_lits W _ rfl)
  have f1 : (FloatKind.f64.format.order 4602678819172646912 4602678819172646912 == some .eq) = true := by decide +kernel
  have f2 : (FloatKind.f64.format.order 9221120237041090560 9221120237041090560 == some .eq) = false := by decide +kernel
  have f3 : (FloatKind.f64.format.order 4607182418800017408 4607182418800017408 == some .eq) = true := by decide +kernel
  have f4 : (FloatKind.f64.format.order 4613937818241073152 4613937818241073152 == some .eq) = true := by decide +kernel
  go_enter Try.func8, Try.ntmps8
  go_wp2_with fail
  refine (alike_ok _ _ _ _ lab lac _ (fun _ h => h) (fun _ h => h) HL1.out.1 HL1.out.2.1 (by decide) (by decide) (by decide) (by decide) (by decide)).mono ?_
  rintro e w1 ⟨rfl, hb1⟩
  rw [aw_f]
  have B1 := Lib.hid (HL1.out.2.2.trans (hb1.mono HL1.out.2.2.size))
  clear hb1 HL1
  go_wp2_with fail
  refine (alike_ok (fun _ => False) (fun _ => False) _ _ [] [] w1 (fun _ h => h.elim) (fun _ h => h.elim) (CellsC.nil _ _ _ _ _) (CellsC.nil _ _ _ _ _) (by decide) (by decide) (by decide) (by decide) (by decide)).mono ?_
  rintro e w2 ⟨rfl, hb2⟩
  rw [aw_g]
  have B2 := Lib.hid (B1.out.trans (hb2.mono B1.out.size))
  clear hb2
  go_wp2_with fail
  refine (moves2_any _ _ _ _ [⟨[120], lab⟩] [⟨[121], lac⟩, ⟨[122], lab⟩] 4602678819172646912 mvY mvZ _ (fun _ h => h) (fun _ h => h) (HL3.out w2).1 (HL3.out w2).2.1 (by decide) (by decide) (fun t ht => text_ok t (by simp at ht; simp [ht])) (fun t ht => text_ok t (by simp at ht; rcases ht with rfl | rfl <;> simp)) (by decide) aw_c ⟨by decide, by decide, by decide⟩ ⟨by decide, by decide, by decide⟩ aw_o).mono ?_
  rintro e w3 ⟨o, rfl, ho, hb3⟩
  rw [aw_m] at ho
  obtain ⟨X, cap, rfl, hX, c0, c1, c2⟩ := ownV_one ho
  have hb23 := (HL3.out w2).2.2.trans (hb3.mono (HL3.out w2).2.2.size)
  have B3 := Lib.hid (B2.out.trans (hb23.mono B2.out.size))
  clear ho hb3 hb23 HL3
  unfold mvZ at c0 c1 c2
  dsimp only at c0 c1 c2
  go_wp2_with fail
  refine (nan_any _).mono ?_
  rintro e w4 ⟨rfl, rfl⟩
  go_wp2_with fail
  refine (total_any (fun _ => True) (some ⟨w3.heap.size, 0, none⟩) [4607182418800017408, 9221120237041090561, 4611686018427387904] 3 _ _ (by decide) (fun k hk => ?_) aw_s).mono ?_
  · have hx := box3 (new_five w3 #[.float .f64 4607182418800017408, .float .f64 9221120237041090561, .float .f64 4611686018427387904] 24) rfl
    have h3 : k = 0 ∨ k = 1 ∨ k = 2 := by simp at hk; omega
    rcases h3 with rfl | rfl | rfl
    · exact ⟨_, _, rfl, trivial, hx.1⟩
    · exact ⟨_, _, rfl, trivial, hx.2.1⟩
    · exact ⟨_, _, rfl, trivial, hx.2.2⟩
  rintro e w5 ⟨rfl, rfl⟩
  rw [aw_n.1, aw_n.2]
  have B5 := Lib.hid (B3.out.alloc B3.out.size (.cells #[.float .f64 4607182418800017408, .float .f64 9221120237041090561, .float .f64 4611686018427387904] 24))
  go_wp2_with fail
  go_ret
  exact ⟨rfl, B5.out⟩
end Go.Proofs.Ytaajfekolokaoaa
