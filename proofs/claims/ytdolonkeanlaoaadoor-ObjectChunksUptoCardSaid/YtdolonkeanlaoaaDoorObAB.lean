/- The walks of object's text and name. The walk of object's name. -/
import Derived.Test.YtdolonkeanlaoaaDoorGrXA
import Derived.Test.YtdolonkeanlaoaaDoorShaAF
namespace Go.Proofs.YtdolonkeanlaoaaDoor
open Go.RowKit

/-- A value that is a text, in blocks of its own. -/
def TextP (w : World) (l : List UInt8) (e : Ending) (w' : World) : Prop := ∃ vb, e = .returned (.agg #[.int .i64 1, .int .u64 0, vb, .float .f64 0, .slice none 0 0]) ∧ BytesC (fun k => w.heap.size ≤ k ∧ k < w'.heap.size) w' vb l ∧ Below w.heap.size w w'
set_option maxRecDepth 100000 in
set_option maxHeartbeats 4000000 in
theorem otext_any (S : Nat → Prop) (v : Value) (l : List UInt8) (w : World) (hb : BytesC S w v l) (hS : ∀ k, S k → k < w.heap.size) (hl : l.length ≤ 1048576) :
    Calls Tryd.prog 16 #[v] w (TextP w l) := by
  have hst := run_storeF
  have HB1 := Lib.hid ((Below.refl w.heap.size w).alloc (Nat.le_refl _) (.cells #[.int .i64 0, .int .u64 0, .slice none 0 0, .float .f64 0, .slice none 0 0] 53))
  have hcv := bytes_str (hb.kept (S' := S) (w' := w.alloc (.cells #[.int .i64 0, .int .u64 0, .slice none 0 0, .float .f64 0, .slice none 0 0] 53)) (fun k hk => ⟨hk, Below.heap_alloc _ _ _ (hS k hk)⟩))
  have hnew := new_five w #[.int .i64 0, .int .u64 0, .slice none 0 0, .float .f64 0, .slice none 0 0] 53
  obtain ⟨a, ca, rfl⟩ := hb.shape
  obtain ⟨n, hn⟩ : ∃ n, l.length = n := ⟨_, rfl⟩
  rw [hn] at hcv ⊢
  have HN := Lib.hid hn
  have HL := Lib.hid hl
  clear hb hS hn hl
  have hsa : (w.alloc (.cells #[.int .i64 0, .int .u64 0, .slice none 0 0, .float .f64 0, .slice none 0 0] 53)).heap.size = w.heap.size + 1 := by simp
  have HSA := Lib.hid hsa
  have HT := Lib.hid (text_any l (w.alloc (.cells #[.int .i64 0, .int .u64 0, .slice none 0 0, .float .f64 0, .slice none 0 0] 53)) HL.out)
  clear hsa hnew
  go_enter Tryd.func16, Tryd.ntmps16
  go_wp2_with fail
  refine HT.out.mono ?_
  rintro e w2 ⟨vb, rfl, hbc, hbl⟩
  obtain ⟨ba, bc, rfl⟩ := hbc.shape
  have hst1 : RStart w w2 := RStart.of hbl
  obtain ⟨⟨c0, c1, c2, c3, c4⟩, z0, z1, z2, z3, z4⟩ := five_cells hst1.blk
  have HB := Lib.hid hst1
  have HC := Lib.hid hbc
  rw [HN.out] at HC ⊢
  clear hbc hbl hst1 hcv
  go_wp2_with fail
  obtain ⟨r0, r1, r2, r3, r4⟩ := set5_cells c0 c1 c2 c3 c4 (.int .i64 1) (.int .u64 0) (.slice ba n bc) (.float .f64 0) (.slice none 0 0)
  unfold set5 at r0 r1 r2 r3 r4
  refine bodyPost_ret (v := .agg #[.int .i64 1, .int .u64 0, .slice ba n bc, .float .f64 0, .slice none 0 0]) (by simp [results, Tryd.results16, go_sem, r0, r1, r2, r3, r4]) rfl ⟨_, rfl, ?_, HB.out.fin _ _ _ _ _⟩
  have hsa := HSA.out
  refine HC.out.kept (w' := set5 w2 w.heap.size (.int .i64 1) (.int .u64 0) (.slice ba n bc) (.float .f64 0) (.slice none 0 0)) (fun k hk => ⟨⟨by omega, ?_⟩, set5_block _ _ _ _ _ _ _ _ (by omega)⟩)
  have e := set5_size w2 w.heap.size (.int .i64 1) (.int .u64 0) (.slice ba n bc) (.float .f64 0) (.slice none 0 0)
  unfold set5 at e
  omega
end Go.Proofs.YtdolonkeanlaoaaDoor
namespace Go.Proofs.YtdolonkeanlaoaaDoor
open Go.RowKit
attribute [local simp high] id_size id_zero

theorem id_bytes {w : World} {b : Nat} {X : List UInt8} (h : IDAt w b X) : BytesC (fun k => k = b) w (.slice (some ⟨b, 0, none⟩) 32 32) X := by
  refine Or.inr ⟨_, 32, by rw [h.len], by rw [h.len]; exact Nat.le_refl _, by unfold maxLen; omega, Or.inr rfl, fun j u hj => ?_⟩
  rw [Addr.add_mid, Nat.zero_add, cell_of_row w b _ _ _ _ h.blk]
  simpa using hj
set_option maxRecDepth 100000 in
set_option maxHeartbeats 4000000 in
theorem oname_any (X : List UInt8) (w : World) (hX : X.length = 32) : Calls Tryd.prog 31 #[.agg (bv X).toArray] w (TextP w X) := by
  have hst := run_storeF
  have hsa : ((w.alloc (.cells (bv X).toArray 33)).alloc (.cells #[.int .i64 0, .int .u64 0, .slice none 0 0, .float .f64 0, .slice none 0 0] 53)).heap.size = w.heap.size + 2 := by simp
  have hi : IDAt ((w.alloc (.cells (bv X).toArray 33)).alloc (.cells #[.int .i64 0, .int .u64 0, .slice none 0 0, .float .f64 0, .slice none 0 0] 53)) w.heap.size X := ⟨hX, (Below.heap_alloc _ _ _ (by simp)).trans (new_five w _ _)⟩
  have hnew := new_five (w.alloc (.cells (bv X).toArray 33)) #[.int .i64 0, .int .u64 0, .slice none 0 0, .float .f64 0, .slice none 0 0] 53
  rw [World.size_alloc] at hnew
  have HB1 := Lib.hid (((Below.refl w.heap.size w).alloc (Nat.le_refl _) (.cells (bv X).toArray 33)).alloc (by simp) (.cells #[.int .i64 0, .int .u64 0, .slice none 0 0, .float .f64 0, .slice none 0 0] 53))
  have HT := Lib.hid (otext_any (fun k => k = w.heap.size) _ X _ (id_bytes hi) (fun k hk => by rw [hsa]; omega) (by omega))
  have HNW := Lib.hid hnew
  have HSA := Lib.hid hsa
  have zx : (bv X).length = n32 := by rw [bv_len, hX]; rfl
  clear hi hnew hsa hX
  go_enter Tryd.func31, Tryd.ntmps31
  go_wp2_with fail
  refine HT.out.mono ?_
  rintro e w2 ⟨vb, rfl, hbc, hbl⟩
  obtain ⟨ba, bc, rfl⟩ := hbc.shape
  obtain ⟨⟨c0, c1, c2, c3, c4⟩, z0, z1, z2, z3, z4⟩ := five_cells ((hbl.block (w.heap.size + 1) (by rw [HSA.out]; omega)).trans HNW.out)
  have HC := Lib.hid hbc
  have HBL := Lib.hid (HB1.out.trans (hbl.mono (by rw [HSA.out]; omega)))
  obtain ⟨n, hn⟩ : ∃ n, X.length = n := ⟨_, rfl⟩
  rw [hn] at HC ⊢
  clear hbc hbl hn
  go_wp2_with fail
  obtain ⟨r0, r1, r2, r3, r4⟩ := set5_cells c0 c1 c2 c3 c4 (.int .i64 1) (.int .u64 0) (.slice ba n bc) (.float .f64 0) (.slice none 0 0)
  unfold set5 at r0 r1 r2 r3 r4
  refine bodyPost_ret (v := .agg #[.int .i64 1, .int .u64 0, .slice ba n bc, .float .f64 0, .slice none 0 0]) (by simp [results, Tryd.results31, go_sem, r0, r1, r2, r3, r4]) rfl ⟨_, rfl, ?_, ?_⟩
  · have hsa := HSA.out
    refine HC.out.kept (w' := set5 w2 (w.heap.size + 1) (.int .i64 1) (.int .u64 0) (.slice ba n bc) (.float .f64 0) (.slice none 0 0)) (fun k hk => ⟨⟨by omega, ?_⟩, set5_block _ _ _ _ _ _ _ _ (by omega)⟩)
    have e := set5_size w2 (w.heap.size + 1) (.int .i64 1) (.int .u64 0) (.slice ba n bc) (.float .f64 0) (.slice none 0 0)
    unfold set5 at e
    omega
  · exact ((((HBL.out.setCell (p := ⟨w.heap.size + 1, 0, none⟩) (Nat.le_succ _) _).setCell (p := ⟨w.heap.size + 1, 1, none⟩) (Nat.le_succ _) _).setCell (p := ⟨w.heap.size + 1, 2, none⟩) (Nat.le_succ _) _).setCell (p := ⟨w.heap.size + 1, 3, none⟩) (Nat.le_succ _) _).setCell (p := ⟨w.heap.size + 1, 4, none⟩) (Nat.le_succ _) _
end Go.Proofs.YtdolonkeanlaoaaDoor
