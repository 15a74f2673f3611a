/- The walk of Scan. -/
import Derived.Test.YtgknihcpmpfocaaDoorPkG
namespace Go.Proofs.YtgknihcpmpfocaaDoor
open Go.RowKit
attribute [local simp high] id_size id_zero

theorem ScJ.chunks {B bc bb : Nat} {v : Value} {ls : List (List UInt8)} {T S : Nat → Prop} {W : World} {vr : Value} {vs : List Value} {R : Nat → Prop} (h : ScAt B bc bb v vr vs R ls T W) (hT : ∀ k, T k → S k) : ChunksC S W vr ls := by
  have hvl : vs.length = ls.length := by have := h.row.1; omega
  rcases h.row.2 with ⟨h1, h2⟩ | ⟨g, cap, cur, x1, x2, x3, x4, x5, x6⟩
  · exact Or.inl ⟨h1, List.length_eq_zero_iff.1 h2⟩
  · refine Or.inr ⟨_, cap, x1, x4, x5, Or.inr (hT g (h.tow g (by rw [x1]; rfl)).1), fun j l hj => ?_⟩
    obtain ⟨vj, e1, e2⟩ := h.recs j l hj
    refine ⟨vj, ?_, e2.kept (fun k hk => ⟨hT k (h.tr k hk).1, rfl⟩)⟩
    exact World.ownsRow.cells h.row (by rw [x1]; rfl) j vj e1
set_option maxRecDepth 100000 in
set_option maxHeartbeats 4000000 in
theorem Scan_any (S : Nat → Prop) (v : Value) (b : List UInt8) (w : World) (hb : BytesC S w v b) (hS : ∀ k, S k → k < w.heap.size) (hE : Env w) (hl : b.length ≤ 1073741824) :
    Calls Tryd.prog 7 #[v] w fun e w' => ∃ u, e = .returned (.tuple #[u, .int .i64 (endL b : Int)]) ∧ ChunksC (fun k => w.heap.size ≤ k ∧ k < w'.heap.size) w' u (scanL b) ∧ Below w.heap.size w w' := by
  obtain ⟨a, ca, rfl⟩ := hb.shape
  have h2 := hE.big
  have hal : ∀ q, q < w.heap.size → ((w.alloc (.cells #[.slice a b.length ca] 22)).alloc (.cells #[.slice none 0 0] 24)).heap[q]? = w.heap[q]? := fun q hq => (Below.heap_alloc _ _ q (by simp; omega)).trans (Below.heap_alloc w _ q hq)
  have hnb : ((w.alloc (.cells #[.slice a b.length ca] 22)).alloc (.cells #[.slice none 0 0] 24)).heap[w.heap.size]? = some (.cells #[.slice a b.length ca] 22 (0, 0)) := (Below.heap_alloc _ _ _ (by simp)).trans (new_five w _ _)
  have hnc := new_five (w.alloc (.cells #[.slice a b.length ca] 22)) #[.slice none 0 0] 24
  rw [World.size_alloc] at hnc
  have hsz : ((w.alloc (.cells #[.slice a b.length ca] 22)).alloc (.cells #[.slice none 0 0] 24)).heap.size = w.heap.size + 2 := by simp
  have hB2 : Below w.heap.size w ((w.alloc (.cells #[.slice a b.length ca] 22)).alloc (.cells #[.slice none 0 0] 24)) := ((Below.refl w.heap.size w).alloc (Nat.le_refl _) _).alloc (by simp) _
  have hE2 := hE.on hB2
  obtain ⟨n, hn⟩ : ∃ n, b.length = n := ⟨_, rfl⟩
  rw [hn]
  rw [hn] at hal hnb hnc hsz hB2 hE2 hb
  have HSC : Hid (∀ w2 : World, w2.heap.size = w.heap.size + 2 → (∀ q, q < w.heap.size → w2.heap[q]? = w.heap[q]?) → w2.heap[w.heap.size]? = some (.cells #[.slice a n ca] 22 (0, 0)) → w2.heap[w.heap.size + 1]? = some (.cells #[.slice none 0 0] 24 (0, 0)) → Env w2 →
      Calls Tryd.prog 26 #[.slice a n ca, .func (.func 27) #[] #[.pointer (some ⟨w.heap.size + 1, 0, none⟩), .pointer (some ⟨w.heap.size, 0, none⟩)]] w2 (ScanP b (ScJ w.heap.size (w.heap.size + 1) w.heap.size (.slice a n ca)) (fun k => k = w.heap.size ∨ k = w.heap.size + 1) w2)) := Lib.hid (fun w2 hz hq h1 hc hE2 => by
    refine scan_any S b _ w2 (hb.kept (fun k hk => ⟨hk, hq k (hS k hk)⟩)) (fun k hk => by have := hS k hk; omega) hE2 hl _ #[] _ _ _ (fun k hk => ?_) (by intro args w; rfl) ScJ.kept ?_ ?_
    · rcases hk with rfl | rfl
      · exact ⟨by omega, fun hs => by have := hS _ hs; omega, by omega⟩
      · exact ⟨by omega, fun hs => by have := hS _ hs; omega, by omega⟩
    · refine ⟨.slice none 0 0, [], fun _ => False, ⟨hc, h1, World.ownsRow_nil _ _ _ _, fun j l hj => by simp at hj, Or.inr rfl, Or.inl rfl, fun k hk => hk.elim, fun k hk => by simp [Value.ownBlock] at hk⟩, fun k hk => ?_⟩
      rcases hk with rfl | rfl <;> omega
    · intro done T W rec todo hdt hJ hT hbW hSW hEW
      have hBW : w.heap.size ≤ W.heap.size := by
        obtain ⟨vr, vs, R, hA, hTl⟩ := hJ
        have := hTl _ hA.tb
        omega
      exact tell_scan _ _ _ S _ b hl done T W rec todo hdt hJ hbW hSW hBW)
  have HB2 := Lib.hid hB2
  have HE2 := Lib.hid hE2
  clear hE2 hE hl hb hS hn h2
  go_enter Tryd.func7, Tryd.ntmps7
  go_upto_region 2 with fail
  have HSC2 := Lib.hid (HSC.out _ hsz hal hnb hnc HE2.out)
  generalize (w.alloc (.cells #[.slice a n ca] 22)).alloc (.cells #[.slice none 0 0] 24) = w2 at *
  have d1 : w2.cell? ⟨w.heap.size, 0, none⟩ = some (.slice a n ca) := (cell_of_row _ _ _ _ _ _ hnb).trans rfl
  clear hal hnb hnc HSC HE2
  go_wp2_with fail
  refine HSC2.out.mono ?_
  rintro e w3 ⟨rfl, T', hT', ⟨vr, vs, R, hA, hTl⟩, hF⟩
  have hb3 : Below w.heap.size w2 w3 := hF.below (fun k hk => by rcases hk with rfl | rfl <;> omega) (by omega)
  have B3 := Lib.hid (HB2.out.trans hb3)
  have c4 : w3.cell? ⟨w.heap.size + 1, 0, none⟩ = some vr := (cell_of_row _ _ _ _ _ _ hA.cell).trans rfl
  have C3 : Hid (ChunksC (fun k => w.heap.size ≤ k ∧ k < w3.heap.size) w3 vr (scanL b)) := Lib.hid (ScJ.chunks hA (fun k hk => by
    refine ⟨?_, (hT' k hk).2⟩
    rcases (hT' k hk).1 with h | h
    · rcases h with rfl | rfl <;> omega
    · omega))
  clear hT' hA hTl hF hb3 HSC2 d1
  go_wp2_with fail
  go_ret2
  exact ⟨vr, rfl, C3.out, B3.out⟩
end Go.Proofs.YtgknihcpmpfocaaDoor
